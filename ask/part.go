package ask

import (
	"math"
	"slices"

	"triune/word"
)

const (
	byteSize = 1      // how many bytes a small number has
	wordSize = 2      // how many bytes other numbers have
	bitOn    = 0xff00 // the number of a bit that is set
	bitOff   = 0      // that of one that isn't
)

// part is one of a request's parts: how it stands in it, and among its bytes.
type part struct {
	fits func(a Ask) bool                      // whether it may be as it is
	lay  func(b []byte, a Ask) []byte          // bytes, and its own behind them
	read func(b []byte, a *Ask) ([]byte, bool) // takes it from the beginning of b into a: what is left of b, and whether it was there
	drop func(a *Ask)                          // takes it out of a
}

// Where parts stand in a request.
func addrOf(a *Ask) *int       { return &a.Addr }
func countOf(a *Ask) *int      { return &a.Count }
func toOf(a *Ask) *int         { return &a.To }
func andOf(a *Ask) *uint16     { return &a.And }
func orOf(a *Ask) *uint16      { return &a.Or }
func wordsOf(a *Ask) *[]uint16 { return &a.Words }
func bitsOf(a *Ask) *[]bool    { return &a.Bits }

// The parts that codes have.
func addr() part                      { return number(addrOf, wordSize, 0, math.MaxUint16) }
func count(most int) part             { return number(countOf, wordSize, 1, most) }
func to() part                        { return number(toOf, wordSize, 0, math.MaxUint16) }
func mask(of func(*Ask) *uint16) part { return number(of, wordSize, 0, math.MaxUint16) }
func level() part                     { return number(countOf, byteSize, 1, mostLevel) }
func object() part                    { return number(addrOf, byteSize, 0, math.MaxUint8) }
func words(most int) part             { return list(wordsOf, most, word.Bytes, wordsIn) }

// number is a part that is one, from least to most, of size bytes.
func number[T int | uint16](of func(*Ask) *T, size, least, most int) part {
	return part{
		fits: func(a Ask) bool {
			n := int(*of(&a))
			return n >= least && n <= most
		},
		lay: func(b []byte, a Ask) []byte { return put(b, int(*of(&a)), size) },
		read: func(b []byte, a *Ask) ([]byte, bool) {
			n, rest, is := cut(b, size)
			*of(a) = T(n)
			return rest, is
		},
		drop: func(a *Ask) { *of(a) = 0 },
	}
}

// single is a part that is a list of one, which is laid as a number.
func single[T any](of func(*Ask) *[]T, value func(T) int, from func(int) (T, bool)) part {
	return part{
		fits: func(a Ask) bool { return len(*of(&a)) == 1 },
		lay:  func(b []byte, a Ask) []byte { return put(b, value((*of(&a))[0]), wordSize) },
		read: func(b []byte, a *Ask) ([]byte, bool) {
			n, rest, is := cut(b, wordSize)
			x, may := from(n)
			*of(a) = []T{x}
			return rest, is && may
		},
		drop: func(a *Ask) { *of(a) = nil },
	}
}

// list is a part that is a list of up to most, laid as how many there are, how many bytes follow on, and these.
func list[T any](of func(*Ask) *[]T, most int, pack func([]T) []byte, unpack func([]byte, int) ([]T, bool)) part {
	return part{
		fits: func(a Ask) bool {
			n := len(*of(&a))
			return n >= 1 && n <= most
		},
		lay: func(b []byte, a Ask) []byte {
			l := *of(&a)
			body := pack(l)
			return append(put(put(b, len(l), wordSize), len(body), byteSize), body...)
		},
		read: func(b []byte, a *Ask) ([]byte, bool) {
			n, b, _ := cut(b, wordSize) // where it fails it leaves nothing, so that the next one fails, too
			size, b, is := cut(b, byteSize)
			if !is || size > len(b) {
				return nil, false
			}
			l, is := unpack(b[:size], n)
			*of(a) = l
			return b[size:], is
		},
		drop: func(a *Ask) { *of(a) = nil },
	}
}

// put are bytes, and a number's lower ones, size of them, behind.
func put(b []byte, n, size int) []byte {
	two := word.Put(uint16(n))
	return append(b, two[wordSize-size:]...)
}

// cut is the number of size bytes that b begins with, what is behind it, and whether it is there.
func cut(b []byte, size int) (int, []byte, bool) {
	if len(b) < size {
		return 0, nil, false
	}
	l, is := word.Words(slices.Concat(make([]byte, wordSize-size), b[:size]))
	return int(l[0]), b[size:], is
}

// wordsIn are the n words whose word.Bytes b is, and whether there are such.
func wordsIn(b []byte, n int) ([]uint16, bool) {
	l, is := word.Words(b)
	return l, is && len(l) == n
}

func putWord(n uint16) int { return int(n) }

func getWord(n int) (uint16, bool) { return uint16(n), true }

func putBit(bit bool) int {
	if bit {
		return bitOn
	}
	return bitOff
}

func getBit(n int) (bool, bool) { return n == bitOn, n == bitOn || n == bitOff }
