package ask

import (
	"bytes"

	"triune/api"
	"triune/word"
)

const (
	places    = 1 << 16 // how many there are
	mostLevel = 4       // how great a Count of Identify is
	mark      = 14      // what stands behind the code of Identify
)

// How many may be read or written at once.
const (
	mostReadBits  = 2000
	mostReadWords = 125
	mostBits      = 1968
	mostWords     = 123
	mostBothWords = 121 // where words are read, too
)

// layout is what the requests of a code have.
type layout struct {
	begin  []byte           // the bytes that tell the code
	parts  []part           // what follows on, in order
	inside func(a Ask) bool // whether the places of one that fits are such as there are
}

// layoutOf is that of a code, and whether there is one; codes that are told alike fall through to the last of them.
func layoutOf(code int) (layout, bool) {
	begin := []byte{byte(code)}
	switch code {
	case api.ReadCoils:
		fallthrough
	case api.ReadDiscrete:
		return layout{begin, []part{addr(), count(mostReadBits)}, countInside}, true
	case api.ReadHolding:
		fallthrough
	case api.ReadInput:
		return layout{begin, []part{addr(), count(mostReadWords)}, countInside}, true
	case api.WriteCoil:
		return layout{begin, []part{addr(), single(bitsOf, putBit, getBit)}, bitsInside}, true
	case api.WriteWord:
		return layout{begin, []part{addr(), single(wordsOf, putWord, getWord)}, wordsInside}, true
	case api.WriteCoils:
		return layout{begin, []part{addr(), list(bitsOf, mostBits, word.Pack, word.Bits)}, bitsInside}, true
	case api.WriteWords:
		return layout{begin, []part{addr(), words(mostWords)}, wordsInside}, true
	case api.MaskWord:
		return layout{begin, []part{addr(), mask(andOf), mask(orOf)}, oneInside}, true
	case api.ReadWrite:
		return layout{begin, []part{addr(), count(mostReadWords), to(), words(mostBothWords)}, bothInside}, true
	case api.Identify:
		return layout{append(begin, mark), []part{level(), object()}, always}, true
	}
	return layout{}, false
}

// fits tells whether all is as told, but for the places: each part is, and beside them there is nothing.
func (l layout) fits(a Ask) bool {
	rest := a
	for _, p := range l.parts {
		if !p.fits(a) {
			return false
		}
		p.drop(&rest)
	}
	return Same(rest, Ask{Code: a.Code})
}

// lay are the bytes of a request that may be.
func (l layout) lay(a Ask) []byte {
	b := bytes.Clone(l.begin)
	for _, p := range l.parts {
		b = p.lay(b, a)
	}
	return b
}

// read is the request that bytes tell, and whether they tell one, and no more; whether it fits is not asked.
func (l layout) read(b []byte) (Ask, bool) {
	a := Ask{Code: int(l.begin[0])}
	rest, is := bytes.CutPrefix(b, l.begin)
	for _, p := range l.parts {
		if !is {
			return Ask{}, false
		}
		rest, is = p.read(rest, &a)
	}
	return a, is && len(rest) == 0
}

// stand tells whether n places from at on are such as there are; what fits is small, so that the sum can't wrap round.
func stand(at, n int) bool { return at+n <= places }

func countInside(a Ask) bool { return stand(a.Addr, a.Count) }
func bitsInside(a Ask) bool  { return stand(a.Addr, len(a.Bits)) }
func wordsInside(a Ask) bool { return stand(a.Addr, len(a.Words)) }
func oneInside(a Ask) bool   { return stand(a.Addr, 1) }
func bothInside(a Ask) bool  { return stand(a.Addr, a.Count) && stand(a.To, len(a.Words)) }
func always(Ask) bool        { return true }
