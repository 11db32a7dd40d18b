package ask_test

import (
	"bytes"
	"math"
	"slices"
	"sync"
	"testing"

	"triune/api"
	"triune/ask"
)

// The calls have just the signatures that the chapter lists.
var (
	_ func(ask.Ask) bool                = ask.Right
	_ func(ask.Ask) ([]byte, api.Errno) = ask.Bytes
	_ func([]byte) (ask.Ask, int)       = ask.Parse
	_ func(int) bool                    = ask.Writes
	_ func(ask.Ask, ask.Ask) bool       = ask.Same
)

// codes are all that there are.
func codes() []int { return []int{1, 2, 3, 4, 5, 6, 15, 16, 22, 23, 43} }

// wide is a number of which the lower 32 bits are 0, where an int has more of them.
var wide = int64(1) << 32

// numbers tells numbers below n in no pattern, the same ones of each seed.
func numbers(seed uint32) func(n int) int {
	return func(n int) int {
		seed = seed*1664525 + 1013904223
		return int(seed>>12) % n
	}
}

// someWords are n words in no pattern.
func someWords(n int) []uint16 {
	next := numbers(uint32(n))
	l := make([]uint16, n)
	for i := range l {
		l[i] = uint16(next(1 << 16))
	}
	return l
}

// someBits are n bits in no pattern, but that the last one is set.
func someBits(n int) []bool {
	next := numbers(uint32(n))
	l := make([]bool, n)
	for i := range l {
		l[i] = next(2) == 1 || i == n-1
	}
	return l
}

// samples are requests that may be, of each code: ordinary ones, and those at the edges.
func samples() []ask.Ask {
	return []ask.Ask{
		{Code: 1, Count: 1},
		{Code: 1, Addr: 19, Count: 37},
		{Code: 1, Addr: 63536, Count: 2000},
		{Code: 2, Addr: 65535, Count: 1},
		{Code: 2, Addr: 0x1234, Count: 0x0102},
		{Code: 2, Count: 2000},
		{Code: 3, Count: 1},
		{Code: 3, Addr: 107, Count: 3},
		{Code: 3, Addr: 65411, Count: 125},
		{Code: 4, Addr: 65535, Count: 1},
		{Code: 4, Addr: 0xff00, Count: 100},
		{Code: 4, Count: 125},
		{Code: 5, Bits: []bool{false}},
		{Code: 5, Addr: 172, Bits: []bool{true}},
		{Code: 5, Addr: 65535, Bits: []bool{true}},
		{Code: 6, Words: []uint16{0}},
		{Code: 6, Addr: 0x0203, Words: []uint16{0x0405}},
		{Code: 6, Addr: 65535, Words: []uint16{65535}},
		{Code: 15, Bits: []bool{false}},
		{Code: 15, Addr: 65535, Bits: []bool{true}},
		{Code: 15, Addr: 20, Bits: someBits(7)},
		{Code: 15, Addr: 20, Bits: someBits(8)},
		{Code: 15, Addr: 20, Bits: someBits(9)},
		{Code: 15, Bits: someBits(1968)},
		{Code: 15, Addr: 65536 - 1967, Bits: make([]bool, 1967)},
		{Code: 16, Words: []uint16{0}},
		{Code: 16, Addr: 65535, Words: []uint16{0xfffe}},
		{Code: 16, Addr: 0x0102, Words: []uint16{0x0304, 0x0506}},
		{Code: 16, Words: someWords(123)},
		{Code: 16, Addr: 65413, Words: someWords(123)},
		{Code: 22},
		{Code: 22, Addr: 4, And: 0xf2, Or: 0x25},
		{Code: 22, Addr: 0x0102, And: 0x0304, Or: 0x0506},
		{Code: 22, Addr: 65535, And: 65535, Or: 65535},
		{Code: 23, Count: 1, Words: []uint16{0}},
		{Code: 23, Addr: 0x0304, Count: 6, To: 0x0506, Words: []uint16{255, 0x0708}},
		{Code: 23, Addr: 65535, Count: 1, To: 65535, Words: []uint16{65535}},
		{Code: 23, Addr: 65411, Count: 125, To: 65415, Words: someWords(121)},
		{Code: 23, Count: 125, Words: someWords(121)},
		{Code: 43, Count: 1},
		{Code: 43, Addr: 255, Count: 1},
		{Code: 43, Addr: 2, Count: 3},
		{Code: 43, Addr: 255, Count: 4},
	}
}

// within tells whether a number is from least to most.
func within(n, least, most int) bool { return least <= n && n <= most }

// shaped tells what the document asks for of a request, but for its places.
func shaped(a ask.Ask) bool {
	words, bits := len(a.Words), len(a.Bits)
	listed := func(w, b int) bool {
		return words == w && bits == b && a.Count == 0 && a.To == 0 && a.And == 0 && a.Or == 0
	}
	counted := func(most int) bool { return within(a.Count, 1, most) && a.To == 0 && a.And == 0 && a.Or == 0 }
	switch a.Code {
	case 1, 2:
		return counted(2000) && words == 0 && bits == 0
	case 3, 4:
		return counted(125) && words == 0 && bits == 0
	case 5:
		return listed(0, 1)
	case 6:
		return listed(1, 0)
	case 15:
		return within(bits, 1, 1968) && listed(0, bits)
	case 16:
		return within(words, 1, 123) && listed(words, 0)
	case 22:
		return a.Count == 0 && a.To == 0 && words == 0 && bits == 0
	case 23:
		return within(a.Count, 1, 125) && within(words, 1, 121) && bits == 0 && a.And == 0 && a.Or == 0
	case 43:
		return counted(4) && words == 0 && bits == 0
	}
	return false
}

// placed tells whether the places of one that is shaped are there.
func placed(a ask.Ask) bool {
	last := func(n int) int { return 65536 - n }
	switch a.Code {
	case 1, 2, 3, 4:
		return within(a.Addr, 0, last(a.Count))
	case 5, 15:
		return within(a.Addr, 0, last(len(a.Bits)))
	case 6, 16:
		return within(a.Addr, 0, last(len(a.Words)))
	case 22:
		return within(a.Addr, 0, 65535)
	case 23:
		return within(a.Addr, 0, last(a.Count)) && within(a.To, 0, last(len(a.Words)))
	}
	return within(a.Addr, 0, 255)
}

// two are a number's bytes.
func two(n int) []byte { return []byte{byte(n / 256), byte(n % 256)} }

// bitsLaid are the bytes of bits.
func bitsLaid(l []bool) []byte {
	b := make([]byte, (len(l)+7)/8)
	for i, bit := range l {
		if bit {
			b[i/8] += 1 << (i % 8)
		}
	}
	return b
}

// wordsLaid are the bytes of words.
func wordsLaid(l []uint16) []byte {
	var b []byte
	for _, n := range l {
		b = append(b, two(int(n))...)
	}
	return b
}

// laid are the bytes that the document asks for of a request that is shaped, without the program's own words.
func laid(a ask.Ask) []byte {
	b := append([]byte{byte(a.Code)}, two(a.Addr)...)
	join := func(parts ...[]byte) []byte { return append(b, slices.Concat(parts...)...) }
	switch words, bits := wordsLaid(a.Words), bitsLaid(a.Bits); a.Code {
	case 1, 2, 3, 4:
		return join(two(a.Count))
	case 5:
		return join([]byte{255 * bits[0], 0})
	case 6:
		return join(words)
	case 15:
		return join(two(len(a.Bits)), []byte{byte(len(bits))}, bits)
	case 16:
		return join(two(len(a.Words)), []byte{byte(len(words))}, words)
	case 22:
		return join(two(int(a.And)), two(int(a.Or)))
	case 23:
		return join(two(a.Count), two(a.To), two(len(a.Words)), []byte{byte(len(words))}, words)
	}
	return []byte{43, 14, byte(a.Count), byte(a.Addr)}
}

// guess is the one request that bytes, of a code that there is, may be those of.
func guess(b []byte) ask.Ask {
	at := func(i int) int { // what is missing is 0: the bytes of the guess are other ones, then
		if i < len(b) {
			return int(b[i])
		}
		return 0
	}
	pair := func(i int) int { return at(i)*256 + at(i+1) }
	words := func(i, n int) []uint16 {
		l := make([]uint16, min(n, 200))
		for k := range l {
			l[k] = uint16(pair(i + 2*k))
		}
		return l
	}
	a := ask.Ask{Code: at(0), Addr: pair(1)}
	switch a.Code {
	case 1, 2, 3, 4:
		a.Count = pair(3)
	case 5:
		a.Bits = []bool{at(3) == 255}
	case 6:
		a.Words = words(3, 1)
	case 15:
		a.Bits = make([]bool, min(pair(3), 2000))
		for i := range a.Bits {
			a.Bits[i] = at(6+i/8)>>(i%8)%2 == 1
		}
	case 16:
		a.Words = words(6, pair(3))
	case 22:
		a.And, a.Or = uint16(pair(3)), uint16(pair(5))
	case 23:
		a.Count, a.To, a.Words = pair(3), pair(5), words(10, pair(7))
	case 43:
		a.Count, a.Addr = at(2), at(3)
	}
	return a
}

// told is what the document asks for of Parse.
func told(b []byte) (ask.Ask, int) {
	if len(b) == 0 || !slices.Contains(codes(), int(b[0])) || b[0] == 43 && len(b) > 1 && b[1] != 14 {
		return ask.Ask{}, 1
	}
	a := guess(b)
	if !shaped(a) || !bytes.Equal(laid(a), b) {
		return ask.Ask{}, 3
	}
	if !placed(a) {
		return ask.Ask{}, 2
	}
	return a, 0
}

// alike tells whether two requests are the same, without the program's own word for it.
func alike(a, b ask.Ask) bool {
	return a.Code == b.Code && a.Addr == b.Addr && a.Count == b.Count && a.To == b.To && a.And == b.And && a.Or == b.Or &&
		slices.Equal(a.Words, b.Words) && slices.Equal(a.Bits, b.Bits)
}

// short is a request with but the beginnings of its lists, to be told.
func short(a ask.Ask) ask.Ask {
	a.Words, a.Bits = a.Words[:min(len(a.Words), 4)], a.Bits[:min(len(a.Bits), 4)]
	return a
}

// may holds it that a request may be, and has just these bytes, and comes back from them.
func may(t *testing.T, a ask.Ask, want []byte) {
	t.Helper()
	if !ask.Right(a) {
		t.Errorf("%v: not right", short(a))
	}
	b, e := ask.Bytes(a)
	if !bytes.Equal(b, want) || e != api.OK {
		t.Errorf("%v: %x, %v, want %x", short(a), b, e, want)
	}
	if len(b) > api.MostPdu {
		t.Errorf("%v: %d bytes", short(a), len(b))
	}
	parses(t, want, a, 0)
}

// mayNot holds it that a request may not be, and has no bytes.
func mayNot(t *testing.T, a ask.Ask) {
	t.Helper()
	if ask.Right(a) {
		t.Errorf("%v, %d, %d: right", short(a), len(a.Words), len(a.Bits))
	}
	if b, e := ask.Bytes(a); len(b) != 0 || e != api.ErrForm {
		t.Errorf("%v, %d, %d: %x, %v", short(a), len(a.Words), len(a.Bits), b, e)
	}
}

// holds holds a request against what the document asks for.
func holds(t *testing.T, a ask.Ask) {
	t.Helper()
	if shaped(a) && placed(a) {
		may(t, a, laid(a))
	} else {
		mayNot(t, a)
	}
}

// parses holds Parse of bytes against a request, or an exception.
func parses(t *testing.T, b []byte, want ask.Ask, x int) {
	t.Helper()
	if a, got := ask.Parse(b); !alike(a, want) || got != x {
		t.Errorf("%d bytes, %x: %v, %d, want %v, %d", len(b), b[:min(len(b), 12)], short(a), got, short(want), x)
	}
}

// refuses holds it that Parse of bytes tells an exception, and no request.
func refuses(t *testing.T, b []byte, x int) {
	t.Helper()
	parses(t, b, ask.Ask{}, x)
}

// follows holds Parse of bytes against what the document asks for, and what is parsed against its bytes.
func follows(t *testing.T, b []byte) int {
	t.Helper()
	want, x := told(b)
	parses(t, b, want, x)
	if a, got := ask.Parse(b); got == 0 {
		if back, e := ask.Bytes(a); !bytes.Equal(back, b) || e != api.OK || !ask.Right(a) || !ask.Same(a, want) {
			t.Errorf("%x: %v: %x, %v", b[:min(len(b), 12)], short(a), back, e)
		}
	}
	return x
}

func TestOfTheDocument(t *testing.T) {
	for _, c := range []struct {
		a ask.Ask
		b []byte
	}{
		{ask.Ask{Code: 3, Addr: 107, Count: 3}, []byte{3, 0, 0x6b, 0, 3}},
		{ask.Ask{Code: 1, Addr: 0x0113, Count: 0x0125}, []byte{1, 1, 0x13, 1, 0x25}},
		{ask.Ask{Code: 2, Addr: 196, Count: 22}, []byte{2, 0, 196, 0, 22}},
		{ask.Ask{Code: 4, Addr: 8, Count: 1}, []byte{4, 0, 8, 0, 1}},
		{ask.Ask{Code: 5, Addr: 172, Bits: []bool{true}}, []byte{5, 0, 172, 0xff, 0}},
		{ask.Ask{Code: 5, Addr: 0xfffe, Bits: []bool{false}}, []byte{5, 0xff, 0xfe, 0, 0}},
		{ask.Ask{Code: 6, Addr: 1, Words: []uint16{0x0203}}, []byte{6, 0, 1, 2, 3}},
		{ask.Ask{Code: 15, Addr: 19, Bits: []bool{true, false, true, true, false, false, true, true, true, false}}, []byte{15, 0, 19, 0, 10, 2, 0xcd, 1}},
		{ask.Ask{Code: 16, Addr: 1, Words: []uint16{10, 258}}, []byte{16, 0, 1, 0, 2, 4, 0, 10, 1, 2}},
		{ask.Ask{Code: 22, Addr: 4, And: 0xf2, Or: 0x0125}, []byte{22, 0, 4, 0, 0xf2, 1, 0x25}},
		{ask.Ask{Code: 23, Addr: 3, Count: 6, To: 14, Words: []uint16{255, 255, 0x0102}}, []byte{23, 0, 3, 0, 6, 0, 14, 0, 3, 6, 0, 255, 0, 255, 1, 2}},
		{ask.Ask{Code: 43, Addr: 2, Count: 1}, []byte{43, 14, 1, 2}},
	} {
		may(t, c.a, c.b)
	}
}

func TestSamplesMayBe(t *testing.T) {
	for _, a := range samples() {
		if !shaped(a) || !placed(a) {
			t.Errorf("%v: no sample", short(a))
		}
		may(t, a, laid(a))
	}
}

func TestCountsAtTheirLimits(t *testing.T) {
	for _, c := range []struct{ code, most int }{{1, 2000}, {2, 2000}, {3, 125}, {4, 125}, {43, 4}} {
		for n := -300; n <= 2300; n++ {
			a := ask.Ask{Code: c.code, Addr: 7, Count: n}
			if within(n, 1, c.most) {
				may(t, a, laid(a))
			} else {
				mayNot(t, a)
			}
		}
	}
	for n := -300; n <= 300; n++ {
		a := ask.Ask{Code: 23, Addr: 7, Count: n, Words: []uint16{5}}
		if within(n, 1, 125) {
			may(t, a, laid(a))
		} else {
			mayNot(t, a)
		}
	}
}

func TestWordsAtTheirLimits(t *testing.T) {
	for n := range 400 {
		for _, c := range []struct{ code, count, most int }{{6, 0, 1}, {16, 0, 123}, {23, 1, 121}, {23, 125, 121}} {
			a := ask.Ask{Code: c.code, Addr: 7, Count: c.count, Words: someWords(n)}
			if within(n, 1, c.most) {
				may(t, a, laid(a))
			} else {
				mayNot(t, a)
			}
		}
	}
}

func TestBitsAtTheirLimits(t *testing.T) {
	for n := range 2100 {
		one, many := ask.Ask{Code: 5, Addr: 7, Bits: someBits(n)}, ask.Ask{Code: 15, Addr: 7, Bits: someBits(n)}
		if n == 1 {
			may(t, one, laid(one))
		} else {
			mayNot(t, one)
		}
		if within(n, 1, 1968) {
			may(t, many, laid(many))
		} else {
			mayNot(t, many)
		}
	}
}

// As many as may be, if but a byte, or two, of how many there are counted.
func TestVeryLongLists(t *testing.T) {
	for _, n := range []int{256, 257, 1<<16 + 1, 1<<16 + 121, 1 << 20} {
		for _, code := range codes() {
			mayNot(t, ask.Ask{Code: code, Words: make([]uint16, n)})
			mayNot(t, ask.Ask{Code: code, Count: 1, Words: make([]uint16, n)})
			mayNot(t, ask.Ask{Code: code, Bits: make([]bool, n+2000)})
			mayNot(t, ask.Ask{Code: code, Count: 1, Bits: make([]bool, n+2000)})
		}
	}
}

func TestEachWordAndMaskComesBack(t *testing.T) {
	for n := range 1 << 16 {
		for _, a := range []ask.Ask{
			{Code: 6, Addr: n, Words: []uint16{uint16(n)}},
			{Code: 22, Addr: n, And: uint16(n), Or: ^uint16(n)},
			{Code: 23, Addr: n, Count: 1, To: 65535 - n, Words: []uint16{uint16(n)}},
			{Code: 5, Addr: n, Bits: []bool{n%2 == 1}},
		} {
			may(t, a, laid(a))
		}
	}
}

func TestPartsThatTheLineDoesNotName(t *testing.T) {
	counts := []int{1, 2, 3, 4, 23, 43}
	with := map[string]struct {
		of func(a *ask.Ask, n int)
		by []int // the codes that name it
	}{
		"Count": {func(a *ask.Ask, n int) { a.Count = n }, counts},
		"To":    {func(a *ask.Ask, n int) { a.To = n }, []int{23}},
		"Words": {func(a *ask.Ask, n int) { a.Words = make([]uint16, 1+n&127) }, []int{6, 16, 23}},
		"Bits":  {func(a *ask.Ask, n int) { a.Bits = make([]bool, 1+n&127) }, []int{5, 15}},
		"And":   {func(a *ask.Ask, n int) { a.And = uint16(n) | 1 }, []int{22}},
		"Or":    {func(a *ask.Ask, n int) { a.Or = uint16(n) | 1 }, []int{22}},
	}
	for _, base := range samples() {
		for name, part := range with {
			if slices.Contains(part.by, base.Code) {
				continue
			}
			for _, n := range []int{1, -1, 2, 256, 65535, 1 << 16, -1 << 16, math.MaxInt, math.MinInt} {
				a := base
				part.of(&a, n)
				if mayNot(t, a); t.Failed() {
					t.Fatal(name)
				}
			}
		}
	}
}

// A list that is not named may be nil, or empty.
func TestListsThatAreEmpty(t *testing.T) {
	for _, a := range samples() {
		want := laid(a)
		if len(a.Words) == 0 {
			a.Words = []uint16{}
		}
		if len(a.Bits) == 0 {
			a.Bits = make([]bool, 0, 10)
		}
		may(t, a, want)
	}
	for _, code := range []int{5, 6, 15, 16} {
		mayNot(t, ask.Ask{Code: code})
		mayNot(t, ask.Ask{Code: code, Words: []uint16{}, Bits: []bool{}})
	}
	mayNot(t, ask.Ask{Code: 23, Count: 1})
	mayNot(t, ask.Ask{Code: 23, Count: 1, Words: []uint16{}, Bits: []bool{}})
}

// strange are codes that there are none of: some would be, if but a byte, or two, or four, of them counted.
func strange() []int {
	l := []int{math.MinInt, math.MinInt + 1, math.MaxInt, math.MaxInt - 1, math.MinInt32, math.MaxInt32}
	for n := -600; n <= 600; n++ {
		if !slices.Contains(codes(), n) {
			l = append(l, n)
		}
	}
	for _, code := range codes() {
		l = append(l, code|1<<16, code-1<<16, code|math.MinInt, code+math.MaxInt-255)
		if n := int(wide) + code; n != code {
			l = append(l, n, code-int(wide))
		}
	}
	return l
}

func TestCodesThatAreNone(t *testing.T) {
	for _, code := range strange() {
		for _, a := range samples() {
			a.Code = code
			mayNot(t, a)
		}
		mayNot(t, ask.Ask{Code: code})
	}
	mayNot(t, ask.Ask{})
}

// The last place is 65535, of each code, wherever the first one is.
func TestPlacesAtTheirLimits(t *testing.T) {
	for _, base := range samples() {
		for addr := 63000; addr <= 67600; addr++ {
			a := base
			a.Addr = addr
			holds(t, a)
			a = base
			a.To = addr
			holds(t, a)
		}
		for addr := -300; addr <= 300; addr++ {
			a := base
			a.Addr = addr
			holds(t, a)
			a = base
			a.To = addr
			holds(t, a)
		}
	}
}

func TestLastPlacesOfEachCode(t *testing.T) {
	for _, c := range []struct {
		a    ask.Ask
		last int
	}{
		{ask.Ask{Code: 1, Count: 1}, 65535},
		{ask.Ask{Code: 1, Count: 2000}, 63536},
		{ask.Ask{Code: 2, Count: 8}, 65528},
		{ask.Ask{Code: 3, Count: 125}, 65411},
		{ask.Ask{Code: 4, Count: 2}, 65534},
		{ask.Ask{Code: 5, Bits: []bool{true}}, 65535},
		{ask.Ask{Code: 6, Words: []uint16{9}}, 65535},
		{ask.Ask{Code: 15, Bits: someBits(1968)}, 63568},
		{ask.Ask{Code: 16, Words: someWords(123)}, 65413},
		{ask.Ask{Code: 22}, 65535},
		{ask.Ask{Code: 23, Count: 125, Words: someWords(121)}, 65411},
		{ask.Ask{Code: 43, Count: 4}, 255},
	} {
		c.a.Addr = c.last
		may(t, c.a, laid(c.a))
		c.a.Addr++
		mayNot(t, c.a)
		c.a.Addr = -1
		mayNot(t, c.a)
	}
	a := ask.Ask{Code: 23, Count: 125, To: 65415, Words: someWords(121)}
	may(t, a, laid(a))
	a.To++
	mayNot(t, a)
	a.To = -1
	mayNot(t, a)
}

// set puts a number into one of a request's parts.
func set(a *ask.Ask, part, n int) {
	switch part {
	case 0:
		a.Addr = n
	case 1:
		a.Count = n
	case 2:
		a.To = n
	case 3:
		a.Words = make([]uint16, n&0x1ff)
	case 4:
		a.Bits = make([]bool, n&0xfff)
	case 5:
		a.And = uint16(n)
	case 6:
		a.Or = uint16(n)
	}
}

// The greatest and the least numbers must not wrap round, in whatever field, or in two of them.
func TestAllNumbersInTwoFields(t *testing.T) {
	values := []int{
		math.MinInt, math.MinInt + 1, math.MinInt32, -1<<16 - 1, -1 << 16, -65535, -256, -1, 0, 1, 2, 4, 5, 121, 122, 123, 124, 125, 126, 255, 256, 257,
		1968, 1969, 2000, 2001, 63536, 63537, 65410, 65411, 65412, 65415, 65416, 65535, 65536, 65537, 1<<16 + 125, 1 << 30, math.MaxInt32, math.MaxInt - 65535, math.MaxInt - 1, math.MaxInt,
		int(wide), int(wide) + 1, 125 - int(wide),
	}
	for _, code := range codes() {
		base := ask.Ask{Code: code, Addr: 9}
		switch code {
		case 1, 2, 3, 4, 43:
			base.Count = 3
		case 5, 15:
			base.Bits = []bool{true}
		case 6, 16:
			base.Words = []uint16{7}
		case 23:
			base.Count, base.To, base.Words = 3, 9, []uint16{7}
		}
		for p := range 7 {
			for q := range p + 1 {
				for _, n := range values {
					for _, m := range values {
						a := base
						set(&a, p, n)
						set(&a, q, m)
						holds(t, a)
					}
				}
			}
		}
	}
}

func TestManyRequests(t *testing.T) {
	next := numbers(5)
	seen := map[int]int{}
	l := samples()
	for range 40000 {
		a := l[next(len(l))]
		for range next(3) {
			most := []int{4, 10, 130, 2010, 65540}[next(5)]
			set(&a, next(7), next(most)-next(2))
		}
		holds(t, a)
		if shaped(a) && placed(a) {
			seen[a.Code]++
		}
	}
	for _, code := range codes() {
		if seen[code] < 100 {
			t.Errorf("%d: %d", code, seen[code])
		}
	}
}

func TestWrites(t *testing.T) {
	for _, code := range codes() {
		if got := ask.Writes(code); got != slices.Contains([]int{5, 6, 15, 16, 22, 23}, code) {
			t.Errorf("%d: %v", code, got)
		}
	}
	for _, code := range strange() {
		if ask.Writes(code) {
			t.Errorf("%d", code)
		}
	}
}

// same holds Same of two, both ways round.
func same(t *testing.T, a, b ask.Ask, want bool) {
	t.Helper()
	if ask.Same(a, b) != want || ask.Same(b, a) != want {
		t.Errorf("%v, %v: not %v", short(a), short(b), want)
	}
}

func TestSameOfEachTwoSamples(t *testing.T) {
	for i, a := range samples() {
		for j, b := range samples() {
			same(t, a, b, i == j)
		}
	}
}

// Same asks of no request whether it may be.
func TestSameOfWhatDiffersInOnePart(t *testing.T) {
	full := func() ask.Ask {
		return ask.Ask{Code: 1, Addr: 2, Count: 3, To: 4, Words: []uint16{5, 6, 7}, Bits: []bool{true, false, true}, And: 8, Or: 9}
	}
	same(t, full(), full(), true)
	same(t, ask.Ask{}, ask.Ask{}, true)
	for name, change := range map[string]func(a *ask.Ask){
		"Code":                func(a *ask.Ask) { a.Code++ },
		"Code, the sign":      func(a *ask.Ask) { a.Code = -a.Code },
		"Addr":                func(a *ask.Ask) { a.Addr++ },
		"Addr, by 65536":      func(a *ask.Ask) { a.Addr += 1 << 16 },
		"Count":               func(a *ask.Ask) { a.Count-- },
		"Count, the greatest": func(a *ask.Ask) { a.Count = math.MaxInt },
		"To":                  func(a *ask.Ask) { a.To++ },
		"To, the least":       func(a *ask.Ask) { a.To = math.MinInt },
		"the first word":      func(a *ask.Ask) { a.Words[0]++ },
		"the last word":       func(a *ask.Ask) { a.Words[2] ^= 1 << 15 },
		"a word more":         func(a *ask.Ask) { a.Words = append(a.Words, 0) },
		"a word fewer":        func(a *ask.Ask) { a.Words = a.Words[:2] },
		"the first is gone":   func(a *ask.Ask) { a.Words = a.Words[1:] },
		"words nil":           func(a *ask.Ask) { a.Words = nil },
		"words empty":         func(a *ask.Ask) { a.Words = []uint16{} },
		"words, the order":    func(a *ask.Ask) { slices.Reverse(a.Words) },
		"the first bit":       func(a *ask.Ask) { a.Bits[0] = false },
		"the middle bit":      func(a *ask.Ask) { a.Bits[1] = true },
		"the last bit":        func(a *ask.Ask) { a.Bits[2] = false },
		"a bit more":          func(a *ask.Ask) { a.Bits = append(a.Bits, false) },
		"a bit fewer":         func(a *ask.Ask) { a.Bits = a.Bits[:2] },
		"bits nil":            func(a *ask.Ask) { a.Bits = nil },
		"bits empty":          func(a *ask.Ask) { a.Bits = []bool{} },
		"And":                 func(a *ask.Ask) { a.And++ },
		"Or":                  func(a *ask.Ask) { a.Or ^= 1 << 15 },
		"And and Or":          func(a *ask.Ask) { a.And, a.Or = a.Or, a.And },
		"Addr and To":         func(a *ask.Ask) { a.Addr, a.To = a.To, a.Addr },
	} {
		t.Run(name, func(t *testing.T) {
			a := full()
			change(&a)
			same(t, a, full(), false)
			same(t, a, ask.Ask{}, false)
		})
	}
}

func TestSameOfNilAndEmpty(t *testing.T) {
	for _, a := range samples() {
		b := a
		if len(a.Words) == 0 {
			a.Words, b.Words = nil, []uint16{}
		}
		if len(a.Bits) == 0 {
			a.Bits, b.Bits = make([]bool, 0, 9), nil
		}
		same(t, a, b, true)
	}
	same(t, ask.Ask{}, ask.Ask{Words: []uint16{}, Bits: []bool{}}, true)
	same(t, ask.Ask{}, ask.Ask{Words: []uint16{0}}, false)
	same(t, ask.Ask{}, ask.Ask{Bits: []bool{false}}, false)
}

func TestWhatIsHandedInStays(t *testing.T) {
	for _, a := range samples() {
		words, bits := append(slices.Clone(a.Words), 0x5555, 0x5555), append(slices.Clone(a.Bits), true, false)
		a.Words, a.Bits = words[:len(a.Words)], bits[:len(a.Bits)]
		kept, keptWords, keptBits := a, slices.Clone(words), slices.Clone(bits)
		ask.Right(a)
		ask.Same(a, a)
		b, _ := ask.Bytes(a)
		b = append(b, 1, 2, 3)
		for i := range b {
			b[i] ^= 0xff
		}
		if !alike(a, kept) || !slices.Equal(words, keptWords) || !slices.Equal(bits, keptBits) {
			t.Errorf("%v, want %v", short(a), short(kept))
		}
	}
}

// flood writes over all of a list, and what is behind it.
func flood[T any](l []T, x T) {
	l = l[:cap(l)]
	for i := range l {
		l[i] = x
	}
}

func TestBytesShareNoMemory(t *testing.T) {
	for _, a := range samples() {
		want := laid(a)
		first, _ := ask.Bytes(a)
		second, _ := ask.Bytes(a)
		flood(first, 0xee)
		third, _ := ask.Bytes(a)
		if !bytes.Equal(second, want) || !bytes.Equal(third, want) {
			t.Errorf("%v: %x, %x", short(a), second, third)
		}
	}
}

func TestParsedSharesNoMemory(t *testing.T) {
	for _, want := range samples() {
		b := append(laid(want), 0x55, 0x55)
		whole := b[:len(b)-2]
		kept := bytes.Clone(b)
		first, _ := ask.Parse(whole)
		second, _ := ask.Parse(whole)
		flood(first.Words, 0xeeee)
		flood(first.Bits, true)
		if !bytes.Equal(b, kept) || !alike(second, want) {
			t.Errorf("%v: %x, %v", short(want), b[:min(len(b), 12)], short(second))
		}
		flood(second.Bits, false)
		third, _ := ask.Parse(whole)
		flood(b, 0xaa)
		if !alike(third, want) {
			t.Errorf("%v: %v", short(want), short(third))
		}
	}
}

func TestCallsFromSeveralGoroutines(t *testing.T) {
	l := samples()
	var all sync.WaitGroup
	for range 8 {
		all.Go(func() {
			for _, a := range l {
				may(t, a, laid(a))
				ask.Same(a, l[0])
				ask.Writes(a.Code)
			}
		})
	}
	all.Wait()
}
