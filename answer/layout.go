package answer

import (
	"math"

	"triune/api"
	"triune/ask"
	"triune/word"
)

const (
	failed    = 128 // by how much the code is greater where there is an exception
	echoed    = 4   // how many bytes of a request that writes many come back
	mark      = 14  // what stands behind the code of Identify
	standing  = 1   // what stands behind the Count of Identify
	objects   = 256 // how many places of Texts there are
	mostText  = 245 // how many bytes a text may have
	headSize  = 7   // how many bytes are ahead of all Texts
	eachAhead = 2   // how many bytes are ahead of each
)

// comes tells whether an answer may come of a request that may be.
func comes(a ask.Ask, x Answer) bool {
	if x.Exception != 0 {
		return x.Exception >= 1 && x.Exception <= math.MaxUint8 && Same(x, Answer{Exception: x.Exception})
	}
	bits, words := 0, 0
	switch a.Code {
	case api.ReadCoils, api.ReadDiscrete:
		bits = a.Count
	case api.ReadHolding, api.ReadInput, api.ReadWrite:
		words = a.Count
	}
	return len(x.Bits) == bits && len(x.Words) == words && textsCome(a, x.Texts)
}

// textsCome tells whether just these Texts may come of a request.
func textsCome(a ask.Ask, l []string) bool {
	if a.Code != api.Identify {
		return len(l) == 0
	}
	if len(l) == 0 || a.Addr+len(l) > objects {
		return false
	}
	size := headSize
	for _, text := range l {
		if len(text) > mostText { // asked of each one, so that the sum can't wrap round
			return false
		}
		size += eachAhead + len(text)
	}
	return size <= api.MostPdu
}

// lay are the bytes of an answer that may come of a request.
func lay(a ask.Ask, x Answer) []byte {
	if x.Exception != 0 {
		return []byte{byte(failed + a.Code), byte(x.Exception)}
	}
	return append([]byte{byte(a.Code)}, body(a, x)...)
}

// body is what stands behind the code where there is no exception.
func body(a ask.Ask, x Answer) []byte {
	switch a.Code {
	case api.ReadCoils, api.ReadDiscrete:
		return counted(word.Pack(x.Bits))
	case api.ReadHolding, api.ReadInput, api.ReadWrite:
		return counted(word.Bytes(x.Words))
	case api.Identify:
		return layTexts(a, x.Texts)
	}
	return echo(a)
}

// counted are bytes, and one ahead of them of how many they are.
func counted(b []byte) []byte { return append([]byte{byte(len(b))}, b...) }

// echo is what a request that writes, and reads nothing, has behind its code that comes back.
func echo(a ask.Ask) []byte {
	b, _ := ask.Bytes(a)
	behind := b[1:]
	switch a.Code {
	case api.WriteCoils, api.WriteWords:
		return behind[:echoed]
	}
	return behind
}

// textsAhead is what stands ahead of how many Texts there are.
func textsAhead(a ask.Ask) []byte { return []byte{mark, byte(a.Count), standing, 0, 0} }

// layTexts are how many Texts there are, and these, each with its place.
func layTexts(a ask.Ask, l []string) []byte {
	b := append(textsAhead(a), byte(len(l)))
	for i, text := range l {
		b = append(b, byte(a.Addr+i))
		b = append(b, counted([]byte(text))...)
	}
	return b
}
