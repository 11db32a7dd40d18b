package answer_test

import (
	"bytes"
	"math"
	"slices"
	"strings"
	"sync"
	"testing"

	"triune/answer"
	"triune/api"
	"triune/ask"
)

// The calls have just the signatures that the chapter lists.
var (
	_ func(ask.Ask, answer.Answer) bool                = answer.Right
	_ func(ask.Ask, answer.Answer) ([]byte, api.Errno) = answer.Bytes
	_ func(ask.Ask, []byte) (answer.Answer, api.Errno) = answer.Read
	_ func(answer.Answer, answer.Answer) bool          = answer.Same
)

// pair is a request, and an answer to it.
type pair struct {
	a ask.Ask
	x answer.Answer
}

// wide is a number of which the lower 32 bits are 0, where an int has more of them.
var wide = int64(1) << 32

// numbers tells numbers below n in no pattern, the same ones of each seed.
func numbers(seed uint32) func(n int) int {
	return func(n int) int {
		seed = seed*1664525 + 1013904223
		return int(seed>>12) % n
	}
}

// someWords are n words in no pattern.
func someWords(n int) []uint16 {
	next := numbers(uint32(n))
	l := make([]uint16, n)
	for i := range l {
		l[i] = uint16(next(1 << 16))
	}
	return l
}

// someBits are n bits in no pattern, but that the last one is set.
func someBits(n int) []bool {
	next := numbers(uint32(n))
	l := make([]bool, n)
	for i := range l {
		l[i] = next(2) == 1 || i == n-1
	}
	return l
}

// long is a text of n bytes in no pattern: no text of runes, either.
func long(n int) string {
	next := numbers(uint32(n))
	b := make([]byte, n)
	for i := range b {
		b[i] = byte(next(256))
	}
	return string(b)
}

// requests are such as may be, of each code: ordinary ones, and those at the edges.
func requests() []ask.Ask {
	return []ask.Ask{
		{Code: 1, Count: 1},
		{Code: 1, Addr: 19, Count: 37},
		{Code: 1, Addr: 63536, Count: 2000},
		{Code: 2, Addr: 65535, Count: 1},
		{Code: 2, Addr: 5, Count: 8},
		{Code: 2, Count: 1999},
		{Code: 3, Count: 1},
		{Code: 3, Addr: 107, Count: 3},
		{Code: 3, Addr: 65411, Count: 125},
		{Code: 4, Addr: 65535, Count: 1},
		{Code: 4, Addr: 0xff00, Count: 100},
		{Code: 5, Addr: 172, Bits: []bool{true}},
		{Code: 5, Addr: 0x0102, Bits: []bool{false}},
		{Code: 5, Bits: []bool{false}},
		{Code: 6, Words: []uint16{0}},
		{Code: 6, Addr: 0x0203, Words: []uint16{0x0405}},
		{Code: 6, Addr: 65535, Words: []uint16{65535}},
		{Code: 15, Addr: 65535, Bits: []bool{true}},
		{Code: 15, Addr: 0x0102, Bits: someBits(9)},
		{Code: 15, Bits: someBits(1968)},
		{Code: 16, Words: []uint16{0}},
		{Code: 16, Addr: 0x0102, Words: []uint16{0x0304, 0x0506}},
		{Code: 16, Addr: 65413, Words: someWords(123)},
		{Code: 22},
		{Code: 22, Addr: 0x0102, And: 0x0304, Or: 0x0506},
		{Code: 22, Addr: 65535, And: 65535, Or: 65535},
		{Code: 23, Count: 1, Words: []uint16{0}},
		{Code: 23, Addr: 0x0304, Count: 6, To: 0x0506, Words: []uint16{255, 0x0708}},
		{Code: 23, Addr: 65411, Count: 125, To: 65415, Words: someWords(121)},
		{Code: 43, Count: 1},
		{Code: 43, Addr: 2, Count: 3},
		{Code: 43, Addr: 133, Count: 2},
		{Code: 43, Addr: 254, Count: 4},
		{Code: 43, Addr: 255, Count: 1},
	}
}

// texts are such as may be told of a request for the place addr.
func texts(addr int) [][]string {
	l := [][]string{{""}, {"a"}, {"triune", "gate", "1"}, {"", ""}, {"\x00\xff", "ä", ""}, {long(244)}, {long(243)}, {long(120), "", long(119), "b"}, make([]string, 123)}
	return slices.DeleteFunc(l, func(t []string) bool {
		size := 7 + 2*len(t)
		for _, text := range t {
			size += len(text)
		}
		return addr+len(t) > 256 || size > 253
	})
}

// answers are some that may come of a request that may be, without an exception.
func answers(a ask.Ask) []answer.Answer {
	switch a.Code {
	case 1, 2:
		return []answer.Answer{{Bits: someBits(a.Count)}, {Bits: make([]bool, a.Count)}, {Bits: slices.Repeat([]bool{true}, a.Count)}}
	case 3, 4, 23:
		return []answer.Answer{{Words: someWords(a.Count)}, {Words: make([]uint16, a.Count)}, {Words: slices.Repeat([]uint16{65535}, a.Count)}}
	case 43:
		var l []answer.Answer
		for _, t := range texts(a.Addr) {
			l = append(l, answer.Answer{Texts: t})
		}
		return l
	}
	return []answer.Answer{{}}
}

// samples are requests of each code, each with answers that may come of it.
func samples() []pair {
	var l []pair
	for _, a := range requests() {
		for _, x := range answers(a) {
			l = append(l, pair{a, x})
		}
		for _, exception := range []int{1, 2, 3, 127, 128, 255} {
			l = append(l, pair{a, answer.Answer{Exception: exception}})
		}
	}
	return l
}

// comes tells what the document asks for of an answer to a request that may be.
func comes(a ask.Ask, x answer.Answer) bool {
	bits, words, texts := len(x.Bits), len(x.Words), len(x.Texts)
	if x.Exception != 0 {
		return 1 <= x.Exception && x.Exception <= 255 && bits+words+texts == 0
	}
	switch a.Code {
	case 1, 2:
		return bits == a.Count && words+texts == 0
	case 3, 4, 23:
		return words == a.Count && bits+texts == 0
	case 43:
		if bits+words != 0 || texts < 1 || texts > 256 || a.Addr+texts > 256 {
			return false
		}
		return len(laid(a, x)) <= 253 && !slices.ContainsFunc(x.Texts, func(text string) bool { return len(text) > 245 })
	}
	return bits+words+texts == 0
}

// two are a number's bytes.
func two(n int) []byte { return []byte{byte(n / 256), byte(n % 256)} }

// bitsLaid are the bytes of bits.
func bitsLaid(l []bool) []byte {
	b := make([]byte, (len(l)+7)/8)
	for i, bit := range l {
		if bit {
			b[i/8] += 1 << (i % 8)
		}
	}
	return b
}

// wordsLaid are the bytes of words.
func wordsLaid(l []uint16) []byte {
	var b []byte
	for _, n := range l {
		b = append(b, two(int(n))...)
	}
	return b
}

// laid are the bytes that the document asks for of an answer, without the program's own words.
func laid(a ask.Ask, x answer.Answer) []byte {
	if x.Exception != 0 {
		return []byte{byte(128 + a.Code), byte(x.Exception)}
	}
	join := func(parts ...[]byte) []byte { return append([]byte{byte(a.Code)}, slices.Concat(parts...)...) }
	switch bits, words := bitsLaid(x.Bits), wordsLaid(x.Words); a.Code {
	case 1, 2:
		return join([]byte{byte(len(bits))}, bits)
	case 3, 4, 23:
		return join([]byte{byte(len(words))}, words)
	case 5:
		return join(two(a.Addr), []byte{255 * bitsLaid(a.Bits)[0], 0})
	case 6:
		return join(two(a.Addr), wordsLaid(a.Words))
	case 15:
		return join(two(a.Addr), two(len(a.Bits)))
	case 16:
		return join(two(a.Addr), two(len(a.Words)))
	case 22:
		return join(two(a.Addr), two(int(a.And)), two(int(a.Or)))
	}
	b := join([]byte{14, byte(a.Count), 1, 0, 0, byte(len(x.Texts))})
	for i, text := range x.Texts {
		b = append(b, byte(a.Addr+i), byte(len(text)))
		b = append(b, text...)
	}
	return b
}

// alike tells whether two answers are the same, without the program's own word for it.
func alike(a, b answer.Answer) bool {
	return a.Exception == b.Exception && slices.Equal(a.Bits, b.Bits) && slices.Equal(a.Words, b.Words) && slices.Equal(a.Texts, b.Texts)
}

// cut is a list with but its beginning.
func cut[T any](l []T) []T { return l[:min(len(l), 4)] }

// shortAsk is a request with but the beginnings of its lists, to be told.
func shortAsk(a ask.Ask) ask.Ask {
	a.Words, a.Bits = cut(a.Words), cut(a.Bits)
	return a
}

// short is an answer with but the beginnings of its lists, to be told.
func short(x answer.Answer) answer.Answer {
	x.Words, x.Bits, x.Texts = cut(x.Words), cut(x.Bits), cut(x.Texts)
	return x
}

// may holds it that an answer may come of a request, and has just these bytes, and comes back from them.
func may(t *testing.T, a ask.Ask, x answer.Answer, want []byte) {
	t.Helper()
	if !answer.Right(a, x) {
		t.Errorf("%v, %v: not right", shortAsk(a), short(x))
	}
	b, e := answer.Bytes(a, x)
	if !bytes.Equal(b, want) || e != api.OK {
		t.Errorf("%v, %v: %x, %v, want %x", shortAsk(a), short(x), b, e, want)
	}
	if len(b) > api.MostPdu {
		t.Errorf("%v, %v: %d bytes", shortAsk(a), short(x), len(b))
	}
	reads(t, a, want, x, api.OK)
}

// mayNot holds it that an answer may not come of a request, and has no bytes.
func mayNot(t *testing.T, a ask.Ask, x answer.Answer, want api.Errno) {
	t.Helper()
	if answer.Right(a, x) {
		t.Errorf("%v, %v: right", shortAsk(a), short(x))
	}
	if b, e := answer.Bytes(a, x); len(b) != 0 || e != want {
		t.Errorf("%v, %v: %x, %v, want %v", shortAsk(a), short(x), b, e, want)
	}
}

// holds holds an answer to a request that may be against what the document asks for.
func holds(t *testing.T, a ask.Ask, x answer.Answer) {
	t.Helper()
	if comes(a, x) {
		may(t, a, x, laid(a, x))
	} else {
		mayNot(t, a, x, api.ErrForm)
	}
}

// reads holds Read of bytes against an answer and an error.
func reads(t *testing.T, a ask.Ask, b []byte, want answer.Answer, e api.Errno) {
	t.Helper()
	if x, got := answer.Read(a, b); !alike(x, want) || got != e {
		t.Errorf("%v, %d bytes, %x: %v, %v, want %v, %v", shortAsk(a), len(b), b[:min(len(b), 16)], short(x), got, short(want), e)
	}
}

func TestOfTheDocument(t *testing.T) {
	for _, c := range []struct {
		a ask.Ask
		x answer.Answer
		b []byte
	}{
		{ask.Ask{Code: 3, Count: 1}, answer.Answer{Exception: 2}, []byte{0x83, 2}},
		{ask.Ask{Code: 1, Addr: 19, Count: 10}, answer.Answer{Bits: []bool{true, false, true, true, false, false, true, true, true, false}}, []byte{1, 2, 0xcd, 1}},
		{ask.Ask{Code: 2, Addr: 196, Count: 3}, answer.Answer{Bits: []bool{true, false, true}}, []byte{2, 1, 5}},
		{ask.Ask{Code: 3, Addr: 107, Count: 3}, answer.Answer{Words: []uint16{0x022b, 0, 100}}, []byte{3, 6, 2, 0x2b, 0, 0, 0, 100}},
		{ask.Ask{Code: 4, Addr: 8, Count: 1}, answer.Answer{Words: []uint16{10}}, []byte{4, 2, 0, 10}},
		{ask.Ask{Code: 5, Addr: 172, Bits: []bool{true}}, answer.Answer{}, []byte{5, 0, 172, 0xff, 0}},
		{ask.Ask{Code: 5, Addr: 258, Bits: []bool{false}}, answer.Answer{}, []byte{5, 1, 2, 0, 0}},
		{ask.Ask{Code: 6, Addr: 1, Words: []uint16{0x0203}}, answer.Answer{}, []byte{6, 0, 1, 2, 3}},
		{ask.Ask{Code: 15, Addr: 19, Bits: make([]bool, 300)}, answer.Answer{}, []byte{15, 0, 19, 1, 44}},
		{ask.Ask{Code: 16, Addr: 1, Words: []uint16{10, 258}}, answer.Answer{}, []byte{16, 0, 1, 0, 2}},
		{ask.Ask{Code: 22, Addr: 4, And: 0xf2, Or: 0x0125}, answer.Answer{}, []byte{22, 0, 4, 0, 0xf2, 1, 0x25}},
		{ask.Ask{Code: 23, Addr: 3, Count: 2, To: 14, Words: []uint16{255}}, answer.Answer{Words: []uint16{254, 0x0acd}}, []byte{23, 4, 0, 254, 0x0a, 0xcd}},
		{ask.Ask{Code: 43, Addr: 1, Count: 2}, answer.Answer{Texts: []string{"gate", "", "1"}}, []byte{43, 14, 2, 1, 0, 0, 3, 1, 4, 'g', 'a', 't', 'e', 2, 0, 3, 1, '1'}},
		{ask.Ask{Code: 43, Addr: 255, Count: 4}, answer.Answer{Texts: []string{"z"}}, []byte{43, 14, 4, 1, 0, 0, 1, 255, 1, 'z'}},
		{ask.Ask{Code: 43, Addr: 255, Count: 4}, answer.Answer{Exception: 255}, []byte{0xab, 255}},
		{ask.Ask{Code: 6, Addr: 1, Words: []uint16{2}}, answer.Answer{Exception: 4}, []byte{0x86, 4}},
	} {
		may(t, c.a, c.x, c.b)
	}
}

func TestSamplesMayCome(t *testing.T) {
	for _, c := range samples() {
		if !comes(c.a, c.x) {
			t.Errorf("%v, %v: no sample", shortAsk(c.a), short(c.x))
		}
		may(t, c.a, c.x, laid(c.a, c.x))
	}
}

// Each of the samples' answers, of each of the samples' requests: most of them don't come of it.
func TestEachAnswerOfEachRequest(t *testing.T) {
	for _, a := range requests() {
		for _, c := range samples() {
			holds(t, a, c.x)
		}
	}
}

// wrongRequests are such as may not be, near to one that may.
func wrongRequests(a ask.Ask) []ask.Ask {
	l := []ask.Ask{{}}
	for _, change := range []func(a *ask.Ask){
		func(a *ask.Ask) { a.Code = 0 },
		func(a *ask.Ask) { a.Code = -a.Code },
		func(a *ask.Ask) { a.Code += 128 },
		func(a *ask.Ask) { a.Code += 256 },
		func(a *ask.Ask) { a.Code += int(wide) },
		func(a *ask.Ask) { a.Addr = -1 },
		func(a *ask.Ask) { a.Addr = 65536 },
		func(a *ask.Ask) { a.Addr += 1 << 16 },
		func(a *ask.Ask) { a.Addr = math.MaxInt },
		func(a *ask.Ask) { a.Count = -1 },
		func(a *ask.Ask) { a.Count = 2001 },
		func(a *ask.Ask) { a.Count = math.MinInt },
		func(a *ask.Ask) { a.Count = math.MaxInt },
		func(a *ask.Ask) { a.To = -1 },
		func(a *ask.Ask) { a.To = 65536 },
		func(a *ask.Ask) { a.Words = make([]uint16, 124) },
		func(a *ask.Ask) { a.Bits = make([]bool, 1969) },
	} {
		wrong := a
		change(&wrong)
		if !ask.Same(wrong, a) { // where an int has but 32 bits one changes nothing
			l = append(l, wrong)
		}
	}
	return l
}

// Whatever the answer is, and whatever the bytes are.
func TestRequestsThatMayNotBe(t *testing.T) {
	for _, right := range requests() {
		for _, a := range wrongRequests(right) {
			if ask.Right(a) {
				t.Fatalf("%v: may be", shortAsk(a))
			}
			for _, x := range append(answers(right), answer.Answer{}, answer.Answer{Exception: 1}, answer.Answer{Exception: 256}, answer.Answer{Exception: -1}, answer.Answer{Bits: []bool{true}, Words: []uint16{1}}) {
				mayNot(t, a, x, api.ErrArg)
			}
			for _, b := range [][]byte{nil, {0}, {byte(a.Code)}, {byte(right.Code + 128), 1}, {128, 1}, laid(right, answers(right)[0])} {
				reads(t, a, b, answer.Answer{}, api.ErrArg)
			}
		}
	}
}

// In a request there may be just what its line names, also where its answer has such a thing.
func TestRequestsWithPartsThatAreNotNamed(t *testing.T) {
	for _, c := range []pair{
		{ask.Ask{Code: 1, Count: 1, Bits: []bool{true}}, answer.Answer{Bits: []bool{true}}},
		{ask.Ask{Code: 3, Count: 1, Words: []uint16{1}}, answer.Answer{Words: []uint16{1}}},
		{ask.Ask{Code: 5, Count: 1, Bits: []bool{true}}, answer.Answer{}},
		{ask.Ask{Code: 5, Bits: []bool{true, true}}, answer.Answer{}},
		{ask.Ask{Code: 6, Count: 1, Words: []uint16{1}}, answer.Answer{}},
		{ask.Ask{Code: 6}, answer.Answer{}},
		{ask.Ask{Code: 15, Count: 1, Bits: []bool{true}}, answer.Answer{}},
		{ask.Ask{Code: 15}, answer.Answer{}},
		{ask.Ask{Code: 16}, answer.Answer{}},
		{ask.Ask{Code: 22, Count: 1}, answer.Answer{}},
		{ask.Ask{Code: 23, Count: 1}, answer.Answer{Words: []uint16{1}}},
		{ask.Ask{Code: 23, Words: []uint16{1}}, answer.Answer{}},
		{ask.Ask{Code: 43}, answer.Answer{Texts: []string{""}}},
		{ask.Ask{Code: 43, Count: 5}, answer.Answer{Texts: []string{""}}},
		{ask.Ask{Code: 43, Count: 1, Addr: 256}, answer.Answer{Texts: []string{""}}},
		{ask.Ask{Code: 1, Count: 0}, answer.Answer{}},
		{ask.Ask{Code: 3, Count: 126}, answer.Answer{Words: make([]uint16, 126)}},
		{ask.Ask{Code: 3, Addr: 65535, Count: 2}, answer.Answer{Words: make([]uint16, 2)}},
	} {
		mayNot(t, c.a, c.x, api.ErrArg)
		mayNot(t, c.a, answer.Answer{Exception: 2}, api.ErrArg)
		reads(t, c.a, laid(c.a, answer.Answer{Exception: 2}), answer.Answer{}, api.ErrArg)
	}
}

func TestEachException(t *testing.T) {
	wrong := []int{256, 257, 300, 511, 512, 1 << 16, 1<<16 + 1, int(wide), int(wide) + 1, math.MaxInt, math.MinInt, math.MinInt + 1, math.MinInt32, math.MaxInt32}
	for n := range 256 {
		wrong = append(wrong, -1-n)
	}
	for _, a := range requests() {
		for n := 1; n <= 255; n++ {
			may(t, a, answer.Answer{Exception: n}, []byte{byte(a.Code + 128), byte(n)})
			may(t, a, answer.Answer{Exception: n, Bits: []bool{}, Words: []uint16{}, Texts: []string{}}, []byte{byte(a.Code + 128), byte(n)})
		}
		for _, n := range wrong {
			mayNot(t, a, answer.Answer{Exception: n}, api.ErrForm)
		}
	}
}

// An exception has nothing beside it, neither what would come of the request else.
func TestExceptionsWithSomethingBeside(t *testing.T) {
	for _, a := range requests() {
		for _, n := range []int{1, 2, 255, 256, -1} {
			for _, x := range []answer.Answer{
				{Bits: []bool{false}},
				{Words: []uint16{0}},
				{Texts: []string{""}},
				{Bits: make([]bool, a.Count+1)},
				{Words: make([]uint16, a.Count+1)},
				{Texts: make([]string, 300)},
			} {
				x.Exception = n
				mayNot(t, a, x, api.ErrForm)
			}
			for _, x := range answers(a) {
				if !alike(x, answer.Answer{}) {
					x.Exception = n
					mayNot(t, a, x, api.ErrForm)
				}
			}
		}
	}
}

func TestBitsAsManyAsAskedFor(t *testing.T) {
	for count := 1; count <= 2000; count++ {
		for _, code := range []int{1, 2} {
			a := ask.Ask{Code: code, Addr: 9, Count: count}
			may(t, a, answer.Answer{Bits: someBits(count)}, laid(a, answer.Answer{Bits: someBits(count)}))
			for _, n := range []int{0, count - 1, count + 1, count + 7, count + 8, count + 256, 8 * count, 1 << 16} {
				holds(t, a, answer.Answer{Bits: make([]bool, n)})
			}
			mayNot(t, a, answer.Answer{}, api.ErrForm)
		}
	}
}

func TestWordsAsManyAsAskedFor(t *testing.T) {
	for count := 1; count <= 125; count++ {
		for _, a := range []ask.Ask{
			{Code: 3, Addr: 9, Count: count},
			{Code: 4, Addr: 9, Count: count},
			{Code: 23, Addr: 9, Count: count, Words: []uint16{5}},
			{Code: 23, Addr: 9, Count: count, Words: someWords(121)},
		} {
			may(t, a, answer.Answer{Words: someWords(count)}, laid(a, answer.Answer{Words: someWords(count)}))
			for _, n := range []int{0, count - 1, count + 1, count + 128, count + 256, 121, 125, 126, 2 * count, 1 << 16} {
				holds(t, a, answer.Answer{Words: make([]uint16, n)})
			}
			mayNot(t, a, answer.Answer{}, api.ErrForm)
		}
	}
}

func TestThingsThatTheCodeDoesNotName(t *testing.T) {
	for _, a := range requests() {
		for _, x := range answers(a) {
			for _, n := range []int{1, 2, 9, 300} {
				for _, more := range []answer.Answer{{Bits: make([]bool, n)}, {Words: make([]uint16, n)}, {Texts: make([]string, n)}} {
					if len(x.Bits) == 0 {
						y := x
						y.Bits = more.Bits
						holds(t, a, y)
					}
					if len(x.Words) == 0 {
						y := x
						y.Words = more.Words
						holds(t, a, y)
					}
					if len(x.Texts) == 0 {
						y := x
						y.Texts = more.Texts
						holds(t, a, y)
					}
				}
			}
		}
	}
}

// What another code would have, in place of what this one has.
func TestThingsOfAnotherCode(t *testing.T) {
	for _, a := range requests() {
		for _, x := range []answer.Answer{
			{},
			{Bits: make([]bool, a.Count)},
			{Words: make([]uint16, a.Count)},
			{Texts: make([]string, a.Count)},
			{Bits: a.Bits},
			{Words: a.Words},
			{Bits: make([]bool, a.Count), Words: make([]uint16, a.Count)},
			{Bits: []bool{true}},
			{Words: []uint16{1}},
			{Texts: []string{"a"}},
		} {
			holds(t, a, x)
		}
	}
}

func TestAnswersWithEmptyLists(t *testing.T) {
	for _, c := range samples() {
		want := laid(c.a, c.x)
		if len(c.x.Bits) == 0 {
			c.x.Bits = []bool{}
		}
		if len(c.x.Words) == 0 {
			c.x.Words = make([]uint16, 0, 10)
		}
		if len(c.x.Texts) == 0 {
			c.x.Texts = []string{}
		}
		may(t, c.a, c.x, want)
	}
}

func TestHowManyTexts(t *testing.T) {
	for _, addr := range []int{0, 1, 100, 132, 133, 134, 135, 200, 253, 254, 255} {
		a := ask.Ask{Code: 43, Addr: addr, Count: 1}
		mayNot(t, a, answer.Answer{}, api.ErrForm)
		mayNot(t, a, answer.Answer{Texts: []string{}}, api.ErrForm)
		for n := 1; n <= 600; n++ {
			x := answer.Answer{Texts: make([]string, n)}
			if n <= 123 && addr+n <= 256 {
				may(t, a, x, laid(a, x))
			} else {
				mayNot(t, a, x, api.ErrForm)
			}
		}
		for _, n := range []int{1 << 16, 1<<16 + 1, 1 << 20} {
			mayNot(t, a, answer.Answer{Texts: make([]string, n)}, api.ErrForm)
		}
	}
}

// One text may have 244 bytes: with 245, which one may have, they would be 254.
func TestHowLongATextIs(t *testing.T) {
	a := ask.Ask{Code: 43, Addr: 3, Count: 4}
	for n := range 700 {
		x := answer.Answer{Texts: []string{long(n)}}
		if n <= 244 {
			may(t, a, x, laid(a, x))
		} else {
			mayNot(t, a, x, api.ErrForm)
		}
		for _, x := range []answer.Answer{{Texts: []string{"", long(n)}}, {Texts: []string{long(n), ""}}} {
			if n <= 242 {
				may(t, a, x, laid(a, x))
			} else {
				mayNot(t, a, x, api.ErrForm)
			}
		}
	}
	for _, n := range []int{1 << 16, 1<<16 + 1, 1 << 24} {
		mayNot(t, a, answer.Answer{Texts: []string{strings.Repeat("a", n)}}, api.ErrForm)
	}
}

// Just as many bytes as may be, and one beyond, however many Texts they are parted into.
func TestBytesOfTextsAtTheirLimit(t *testing.T) {
	for n := 1; n <= 123; n++ {
		for _, addr := range []int{0, 256 - n, 256 - n + 1} {
			a := ask.Ask{Code: 43, Addr: min(addr, 255), Count: 2}
			for _, last := range []bool{false, true} {
				l := make([]string, n)
				place := 0
				if last {
					place = n - 1
				}
				l[place] = long(253 - 7 - 2*n)
				x := answer.Answer{Texts: l}
				if len(laid(a, x)) != 253 {
					t.Fatal(n)
				}
				holds(t, a, x)
				if want := a.Addr+n <= 256; answer.Right(a, x) != want {
					t.Errorf("%d, %d: not %v", a.Addr, n, want)
				}
				l[place] += "b"
				mayNot(t, a, x, api.ErrForm)
			}
		}
	}
}

// The sum of how long they are must not wrap round, whatever it is kept in.
func TestVeryManyLongTexts(t *testing.T) {
	text := strings.Repeat("a", 1<<22)
	for _, n := range []int{1, 2, 64, 255, 256} {
		a := ask.Ask{Code: 43, Count: 1}
		mayNot(t, a, answer.Answer{Texts: slices.Repeat([]string{text}, n)}, api.ErrForm)
		mayNot(t, a, answer.Answer{Texts: slices.Repeat([]string{text[:245]}, n)}, api.ErrForm)
		mayNot(t, a, answer.Answer{Texts: slices.Repeat([]string{text[:254]}, n)}, api.ErrForm)
	}
}

// Of each place: as many Texts as there are places from it on, and one more.
func TestTextsUpToTheLastPlace(t *testing.T) {
	for addr := range 256 {
		a := ask.Ask{Code: 43, Addr: addr, Count: 1}
		for _, n := range []int{1, 2, 256 - addr, 257 - addr, 258 - addr, 300} {
			holds(t, a, answer.Answer{Texts: make([]string, n)})
		}
	}
}

func TestEachRequestThatIsSentBack(t *testing.T) {
	for n := range 1 << 16 {
		for _, a := range []ask.Ask{
			{Code: 5, Addr: n, Bits: []bool{n%2 == 1}},
			{Code: 6, Addr: n, Words: []uint16{^uint16(n)}},
			{Code: 22, Addr: n, And: uint16(n), Or: ^uint16(n)},
		} {
			may(t, a, answer.Answer{}, laid(a, answer.Answer{}))
		}
	}
	for n := 1; n <= 1968; n++ {
		a := ask.Ask{Code: 15, Addr: 65536 - n, Bits: someBits(n)}
		may(t, a, answer.Answer{}, laid(a, answer.Answer{}))
	}
	for n := 1; n <= 123; n++ {
		a := ask.Ask{Code: 16, Addr: 65536 - n, Words: someWords(n)}
		may(t, a, answer.Answer{}, laid(a, answer.Answer{}))
	}
}

// same holds Same of two, both ways round.
func same(t *testing.T, a, b answer.Answer, want bool) {
	t.Helper()
	if answer.Same(a, b) != want || answer.Same(b, a) != want {
		t.Errorf("%v, %v: not %v", short(a), short(b), want)
	}
}

func TestSameOfEachTwoSamples(t *testing.T) {
	for _, a := range samples() {
		for _, b := range samples() {
			same(t, a.x, b.x, alike(a.x, b.x))
		}
	}
}

// Same asks of no answer whether it may come of anything.
func TestSameOfWhatDiffersInOnePart(t *testing.T) {
	full := func() answer.Answer {
		return answer.Answer{Exception: 1, Bits: []bool{true, false, true}, Words: []uint16{5, 6, 7}, Texts: []string{"a", "", "bc"}}
	}
	same(t, full(), full(), true)
	same(t, answer.Answer{}, answer.Answer{}, true)
	for name, change := range map[string]func(x *answer.Answer){
		"Exception":               func(x *answer.Answer) { x.Exception++ },
		"Exception, the sign":     func(x *answer.Answer) { x.Exception = -x.Exception },
		"Exception, none":         func(x *answer.Answer) { x.Exception = 0 },
		"Exception, by 256":       func(x *answer.Answer) { x.Exception += 256 },
		"Exception, the greatest": func(x *answer.Answer) { x.Exception = math.MaxInt },
		"the first bit":           func(x *answer.Answer) { x.Bits[0] = false },
		"the middle bit":          func(x *answer.Answer) { x.Bits[1] = true },
		"the last bit":            func(x *answer.Answer) { x.Bits[2] = false },
		"a bit more":              func(x *answer.Answer) { x.Bits = append(x.Bits, false) },
		"a bit fewer":             func(x *answer.Answer) { x.Bits = x.Bits[:2] },
		"bits nil":                func(x *answer.Answer) { x.Bits = nil },
		"bits empty":              func(x *answer.Answer) { x.Bits = []bool{} },
		"the first word":          func(x *answer.Answer) { x.Words[0]++ },
		"the last word":           func(x *answer.Answer) { x.Words[2] ^= 1 << 15 },
		"a word more":             func(x *answer.Answer) { x.Words = append(x.Words, 0) },
		"a word fewer":            func(x *answer.Answer) { x.Words = x.Words[:2] },
		"the first is gone":       func(x *answer.Answer) { x.Words = x.Words[1:] },
		"words, the order":        func(x *answer.Answer) { slices.Reverse(x.Words) },
		"words nil":               func(x *answer.Answer) { x.Words = nil },
		"words empty":             func(x *answer.Answer) { x.Words = []uint16{} },
		"the first text":          func(x *answer.Answer) { x.Texts[0] = "A" },
		"the first text, longer":  func(x *answer.Answer) { x.Texts[0] = "a\x00" },
		"the empty text":          func(x *answer.Answer) { x.Texts[1] = " " },
		"the last text":           func(x *answer.Answer) { x.Texts[2] = "bd" },
		"the last text, shorter":  func(x *answer.Answer) { x.Texts[2] = "b" },
		"a text more":             func(x *answer.Answer) { x.Texts = append(x.Texts, "") },
		"a text fewer":            func(x *answer.Answer) { x.Texts = x.Texts[:2] },
		"texts, parted otherwise": func(x *answer.Answer) { x.Texts = []string{"a", "b", "c"} },
		"texts, the order":        func(x *answer.Answer) { slices.Reverse(x.Texts) },
		"texts nil":               func(x *answer.Answer) { x.Texts = nil },
		"texts empty":             func(x *answer.Answer) { x.Texts = []string{} },
	} {
		t.Run(name, func(t *testing.T) {
			x := full()
			change(&x)
			same(t, x, full(), false)
			same(t, x, answer.Answer{}, false)
		})
	}
}

func TestSameOfNilAndEmpty(t *testing.T) {
	for _, c := range samples() {
		x, y := c.x, c.x
		if len(x.Bits) == 0 {
			x.Bits, y.Bits = nil, []bool{}
		}
		if len(x.Words) == 0 {
			x.Words, y.Words = make([]uint16, 0, 9), nil
		}
		if len(x.Texts) == 0 {
			x.Texts, y.Texts = nil, make([]string, 0, 9)
		}
		same(t, x, y, true)
	}
	same(t, answer.Answer{}, answer.Answer{Bits: []bool{}, Words: []uint16{}, Texts: []string{}}, true)
	same(t, answer.Answer{}, answer.Answer{Bits: []bool{false}}, false)
	same(t, answer.Answer{}, answer.Answer{Words: []uint16{0}}, false)
	same(t, answer.Answer{}, answer.Answer{Texts: []string{""}}, false)
}

// behind is a list's copy with more behind it that is not its own.
func behind[T any](l []T, more ...T) []T { return slices.Concat(l, more) }

func TestWhatIsHandedInStays(t *testing.T) {
	for _, c := range samples() {
		words, bits := behind(c.a.Words, 0x5555), behind(c.a.Bits, true, false)
		values, states, texts := behind(c.x.Words, 0x6666), behind(c.x.Bits, false, true), behind(c.x.Texts, "x", "y")
		a, x := c.a, c.x
		a.Words, a.Bits = words[:len(a.Words)], bits[:len(a.Bits)]
		x.Words, x.Bits, x.Texts = values[:len(x.Words)], states[:len(x.Bits)], texts[:len(x.Texts)]
		answer.Right(a, x)
		answer.Same(x, x)
		b, _ := answer.Bytes(a, x)
		flood(b, 0xee)
		answer.Read(a, laid(c.a, c.x))
		if !ask.Same(a, c.a) || !slices.Equal(words, behind(c.a.Words, 0x5555)) || !slices.Equal(bits, behind(c.a.Bits, true, false)) {
			t.Errorf("%v, want %v", shortAsk(a), shortAsk(c.a))
		}
		if !alike(x, c.x) || !slices.Equal(values, behind(c.x.Words, 0x6666)) || !slices.Equal(states, behind(c.x.Bits, false, true)) || !slices.Equal(texts, behind(c.x.Texts, "x", "y")) {
			t.Errorf("%v, want %v", short(x), short(c.x))
		}
	}
}

// flood writes over all of a list, and what is behind it.
func flood[T any](l []T, x T) {
	l = l[:cap(l)]
	for i := range l {
		l[i] = x
	}
}

func TestBytesShareNoMemory(t *testing.T) {
	for _, c := range samples() {
		want := laid(c.a, c.x)
		first, _ := answer.Bytes(c.a, c.x)
		second, _ := answer.Bytes(c.a, c.x)
		flood(first, 0xee)
		third, _ := answer.Bytes(c.a, c.x)
		if !bytes.Equal(second, want) || !bytes.Equal(third, want) {
			t.Errorf("%v, %v: %x, %x", shortAsk(c.a), short(c.x), second, third)
		}
	}
}

func TestCallsFromSeveralGoroutines(t *testing.T) {
	l := samples()
	var all sync.WaitGroup
	for range 8 {
		all.Go(func() {
			for _, c := range l {
				may(t, c.a, c.x, laid(c.a, c.x))
				reads(t, c.a, nil, answer.Answer{}, api.ErrForm)
				answer.Same(c.x, l[0].x)
			}
		})
	}
	all.Wait()
}
