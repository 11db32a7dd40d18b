package answer_test

import (
	"bytes"
	"slices"
	"testing"

	"triune/answer"
	"triune/api"
	"triune/ask"
)

// refuses holds it that Read of bytes tells ErrForm, and no answer.
func refuses(t *testing.T, a ask.Ask, b []byte) {
	t.Helper()
	reads(t, a, b, answer.Answer{}, api.ErrForm)
}

// guess is the one answer to a request that bytes may be those of.
func guess(a ask.Ask, b []byte) answer.Answer {
	at := func(i int) int { // what is missing is 0: the bytes of the guess are other ones, then
		if i < len(b) {
			return int(b[i])
		}
		return 0
	}
	if at(0) == a.Code+128 {
		return answer.Answer{Exception: at(1)}
	}
	var x answer.Answer
	switch a.Code {
	case 1, 2:
		x.Bits = make([]bool, a.Count)
		for i := range x.Bits {
			x.Bits[i] = at(2+i/8)>>(i%8)%2 == 1
		}
	case 3, 4, 23:
		for i := range a.Count {
			x.Words = append(x.Words, uint16(at(2+2*i)*256+at(3+2*i)))
		}
	case 43:
		place := 7
		for range at(6) {
			text := make([]byte, at(place+1))
			for k := range text {
				text[k] = byte(at(place + 2 + k))
			}
			x.Texts = append(x.Texts, string(text))
			place += 2 + len(text)
		}
	}
	return x
}

// told is what the document asks for of Read, of a request that may be.
func told(a ask.Ask, b []byte) (answer.Answer, api.Errno) {
	if x := guess(a, b); comes(a, x) && bytes.Equal(laid(a, x), b) {
		return x, api.OK
	}
	return answer.Answer{}, api.ErrForm
}

// follows holds Read of bytes against what the document asks for, and what is read against its bytes.
func follows(t *testing.T, a ask.Ask, b []byte) api.Errno {
	t.Helper()
	want, e := told(a, b)
	reads(t, a, b, want, e)
	if x, got := answer.Read(a, b); got == api.OK {
		if back, e := answer.Bytes(a, x); !bytes.Equal(back, b) || e != api.OK || !answer.Right(a, x) || !answer.Same(x, want) || len(b) > api.MostPdu {
			t.Errorf("%v, %x: %v: %x, %v", shortAsk(a), b[:min(len(b), 16)], short(x), back, e)
		}
	}
	return e
}

func TestReadOfNoBytes(t *testing.T) {
	for _, a := range requests() {
		for _, b := range [][]byte{nil, {}, make([]byte, 0, 10), laid(a, answer.Answer{Exception: 1})[:0]} {
			refuses(t, a, b)
		}
	}
}

func TestReadOfBytesThatAreCutOff(t *testing.T) {
	for _, c := range samples() {
		b := laid(c.a, c.x)
		for n := range b {
			refuses(t, c.a, b[:n])
			refuses(t, c.a, bytes.Clone(b[:n])) // with no bytes behind that may be taken by mistake
		}
	}
}

func TestReadOfBytesWithMoreBehind(t *testing.T) {
	for _, c := range samples() {
		b := laid(c.a, c.x)
		for _, more := range [][]byte{{0}, {1}, {255}, {0, 0}, {0, 1}, {byte(c.a.Code)}, b, make([]byte, 300), make([]byte, 1<<16)} {
			refuses(t, c.a, slices.Concat(b, more))
		}
	}
}

// Each first byte, ahead of what would be right behind the request's code, and behind that and 128.
func TestReadOfEachCode(t *testing.T) {
	for _, c := range samples() {
		b := laid(c.a, c.x)
		for code := range 256 {
			other := bytes.Clone(b)
			if other[0] = byte(code); b[0] == byte(code) {
				reads(t, c.a, other, c.x, api.OK)
				continue
			}
			follows(t, c.a, other)
			if code != c.a.Code && code != c.a.Code+128 {
				refuses(t, c.a, other)
			}
		}
	}
}

// The bytes of each sample's answer, of each request: of most of them they are none.
func TestReadOfEachAnswerOfEachRequest(t *testing.T) {
	l := samples()
	for _, a := range requests() {
		for _, c := range l {
			follows(t, a, laid(c.a, c.x))
		}
	}
}

// An exception that is 0 is none: above all it is not an answer that has nothing else.
func TestReadOfEachException(t *testing.T) {
	for _, a := range requests() {
		code := byte(a.Code + 128)
		refuses(t, a, []byte{code})
		refuses(t, a, []byte{code, 0})
		refuses(t, a, append([]byte{code, 0}, laid(a, answers(a)[0])[1:]...))
		for n := 1; n <= 255; n++ {
			reads(t, a, []byte{code, byte(n)}, answer.Answer{Exception: n}, api.OK)
			refuses(t, a, []byte{code, byte(n), 0})
			refuses(t, a, []byte{code, byte(n), byte(n)})
			refuses(t, a, []byte{code - 1, byte(n)})
			refuses(t, a, []byte{byte(a.Code), byte(n)})
		}
	}
}

// How many bytes are said to follow on, and how many do: both must be just what the request asked for.
func TestReadOfCountsThatDoNotFit(t *testing.T) {
	for _, a := range requests() {
		size := 0
		switch a.Code {
		case 1, 2:
			size = (a.Count + 7) / 8
		case 3, 4, 23:
			size = 2 * a.Count
		default:
			continue
		}
		for said := range 256 {
			for _, n := range []int{0, size - 1, size, size + 1, size + 2, said, said + 1, 2*said + 2, size + 256} {
				b := append([]byte{byte(a.Code), byte(said)}, make([]byte, n)...)
				follows(t, a, b)
				if said == size && n == size {
					reads(t, a, b, answers(a)[1], api.OK)
				} else {
					refuses(t, a, b)
				}
			}
		}
	}
}

func TestReadOfBitsBeyondTheLastOne(t *testing.T) {
	for count := 1; count <= 2000; count++ {
		a := ask.Ask{Code: 1 + count%2, Count: count}
		for _, x := range answers(a) {
			b := laid(a, x)
			reads(t, a, b, x, api.OK)
			for bit := count % 8; bit != 0 && bit < 8; bit++ {
				more := bytes.Clone(b)
				more[len(b)-1] |= 1 << bit
				refuses(t, a, more)
			}
		}
	}
}

// Of a code that writes, and reads nothing, each byte is just as the request has it.
func TestReadOfWhatIsNotSentBackJustSo(t *testing.T) {
	for _, a := range requests() {
		if !slices.Contains([]int{5, 6, 15, 16, 22}, a.Code) {
			continue
		}
		b := laid(a, answer.Answer{})
		reads(t, a, b, answer.Answer{}, api.OK)
		for i := range b {
			for x := range 256 {
				if b[i] != byte(x) {
					other := bytes.Clone(b)
					other[i] = byte(x)
					refuses(t, a, other)
				}
			}
		}
		whole, _ := ask.Bytes(a)
		follows(t, a, whole)
		if a.Code == 15 || a.Code == 16 {
			refuses(t, a, whole)
		}
	}
}

// A bit that is set is told by 255 and 0; no other bytes tell it.
func TestReadOfABitThatIsSentBackOtherwise(t *testing.T) {
	for _, bit := range []bool{false, true} {
		a := ask.Ask{Code: 5, Addr: 7, Bits: []bool{bit}}
		for n := range 1 << 16 {
			b := append([]byte{5, 0, 7}, two(n)...)
			if bit && n == 0xff00 || !bit && n == 0 {
				reads(t, a, b, answer.Answer{}, api.OK)
			} else {
				refuses(t, a, b)
			}
		}
	}
}

func TestReadOfTextsOutOfOrder(t *testing.T) {
	head := []byte{43, 14, 1, 1, 0, 0}
	a := ask.Ask{Code: 43, Addr: 7, Count: 1}
	reads(t, a, append(head, 2, 7, 1, 'a', 8, 1, 'b'), answer.Answer{Texts: []string{"a", "b"}}, api.OK)
	for _, behind := range [][]byte{
		{2, 8, 1, 'b', 7, 1, 'a'},
		{2, 7, 1, 'a', 7, 1, 'b'},
		{2, 7, 1, 'a', 9, 1, 'b'},
		{2, 7, 1, 'a', 6, 1, 'b'},
		{2, 0, 1, 'a', 1, 1, 'b'},
		{2, 8, 1, 'a', 9, 1, 'b'},
		{2, 6, 1, 'a', 7, 1, 'b'},
		{1, 0, 0},
		{1, 8, 0},
	} {
		refuses(t, a, slices.Concat(head, behind))
	}
	for first := range 256 {
		for second := range 256 {
			b := slices.Concat(head, []byte{2, byte(first), 1, 'a', byte(second), 0})
			if follows(t, a, b) == api.OK != (first == 7 && second == 8) {
				t.Errorf("%d, %d", first, second)
			}
		}
	}
}

// Behind the last place there is none, neither the first one once more.
func TestReadOfTextsBeyondTheLastPlace(t *testing.T) {
	for _, addr := range []int{134, 135, 200, 253, 254, 255} {
		a := ask.Ask{Code: 43, Addr: addr, Count: 4}
		for n := range 124 {
			b := []byte{43, 14, 4, 1, 0, 0, byte(n)}
			for i := range n {
				b = append(b, byte(addr+i), 0)
			}
			if n >= 1 && addr+n <= 256 {
				reads(t, a, b, answer.Answer{Texts: make([]string, n)}, api.OK)
			} else {
				refuses(t, a, b)
			}
		}
	}
}

func TestReadOfLengthsThatReachBeyondTheEnd(t *testing.T) {
	for _, a := range []ask.Ask{{Code: 43, Count: 1}, {Code: 43, Addr: 254, Count: 2}} {
		for size := range 256 {
			for _, n := range []int{0, 1, max(size-1, 0), size, size + 1, 240, 244, 245, 246} {
				b := append([]byte{43, 14, byte(a.Count), 1, 0, 0, 1, byte(a.Addr), byte(size)}, bytes.Repeat([]byte{'a'}, n)...)
				e := follows(t, a, b)
				if is := n == size && size <= 244; is != (e == api.OK) {
					t.Errorf("%d, %d: %v", size, n, e)
				}
			}
			two := []byte{43, 14, byte(a.Count), 1, 0, 0, 2, byte(a.Addr), byte(size), 'a', byte(a.Addr + 1), 1, 'b'}
			if is := size == 1; is != (follows(t, a, two) == api.OK) {
				t.Errorf("%d", size)
			}
		}
	}
}

func TestReadOfHowManyTexts(t *testing.T) {
	a := ask.Ask{Code: 43, Addr: 3, Count: 3}
	for said := range 256 {
		for n := range 130 {
			b := []byte{43, 14, 3, 1, 0, 0, byte(said)}
			for i := range n {
				b = append(b, byte(3+i), 0)
			}
			e := follows(t, a, b)
			if is := said == n && n >= 1 && n <= 123; is != (e == api.OK) {
				t.Errorf("%d, %d: %v", said, n, e)
			}
		}
	}
}

// What is ahead of all Texts is just so; the Count is the request's.
func TestReadOfWhatIsAheadOfTexts(t *testing.T) {
	for count := 1; count <= 4; count++ {
		a := ask.Ask{Code: 43, Addr: 1, Count: count}
		b := laid(a, answer.Answer{Texts: []string{"ab", ""}})
		for i := range 7 {
			for x := range 256 {
				if b[i] != byte(x) {
					other := bytes.Clone(b)
					other[i] = byte(x)
					refuses(t, a, other)
				}
			}
		}
	}
}

// One byte more than an answer may have, in all ways to have it.
func TestReadOfTextsOfTooManyBytes(t *testing.T) {
	for n := 1; n <= 122; n++ {
		a := ask.Ask{Code: 43, Addr: 256 - n, Count: 1}
		l := make([]string, n)
		l[n/2] = long(246 - 2*n)
		x := answer.Answer{Texts: l}
		reads(t, a, laid(a, x), x, api.OK)
		for _, more := range []int{1, 2, 9} {
			if l[n/2] = long(246 - 2*n + more); len(l[n/2]) <= 255 {
				refuses(t, a, laid(a, x))
			}
		}
	}
}

// All that are up to two, and all three that begin with the code.
func TestReadOfAllShortBytes(t *testing.T) {
	for _, a := range []ask.Ask{
		{Code: 1, Count: 3},
		{Code: 2, Count: 8},
		{Code: 3, Count: 1},
		{Code: 4, Count: 2},
		{Code: 5, Bits: []bool{true}},
		{Code: 6, Words: []uint16{0}},
		{Code: 22},
		{Code: 23, Count: 1, Words: []uint16{2}},
		{Code: 43, Count: 1},
	} {
		for code := range 256 {
			follows(t, a, []byte{byte(code)})
			for n := range 256 {
				follows(t, a, []byte{byte(code), byte(n)})
			}
		}
		for n := range 1 << 16 {
			follows(t, a, append([]byte{byte(a.Code)}, two(n)...))
		}
		for n := range 256 {
			follows(t, a, []byte{byte(a.Code + 128), byte(n), 0})
			follows(t, a, []byte{byte(a.Code + 128), 1, byte(n)})
		}
	}
}

// Each byte of an answer turned into each other one.
func TestReadOfEachByteChanged(t *testing.T) {
	for _, c := range samples() {
		b := laid(c.a, c.x)
		for i := range min(len(b), 14) {
			for x := range 256 {
				other := bytes.Clone(b)
				other[i] = byte(x)
				follows(t, c.a, other)
			}
		}
	}
}

func TestReadOfManyBytes(t *testing.T) {
	next := numbers(9)
	seen := map[api.Errno]int{}
	l := samples()
	for range 100000 {
		c := l[next(len(l))]
		b := laid(c.a, c.x)
		for range next(3) {
			b[next(min(len(b), 12))] = []byte{0, 1, 2, 4, 255, byte(next(256))}[next(6)]
		}
		switch next(8) {
		case 0:
			b = b[:next(len(b)+1)]
		case 1:
			b = append(b, make([]byte, next(4))...)
		case 2:
			c = l[next(len(l))]
		}
		seen[follows(t, c.a, b)]++
	}
	if seen[api.OK] < 1000 || seen[api.ErrForm] < 1000 {
		t.Errorf("%v", seen)
	}
}

// Texts in no pattern, with and without a fault.
func TestReadOfManyTexts(t *testing.T) {
	next := numbers(5)
	seen := map[api.Errno]int{}
	for range 60000 {
		a := ask.Ask{Code: 43, Addr: []int{0, 3, 250, 255}[next(4)], Count: 1 + next(4)}
		l := make([]string, 1+next(6))
		for i := range l {
			l[i] = long(next([]int{3, 90}[next(2)]))
		}
		b := laid(a, answer.Answer{Texts: l})
		if next(3) == 0 {
			b[next(len(b))] ^= 1 << next(8)
		}
		seen[follows(t, a, b)]++
	}
	if seen[api.OK] < 1000 || seen[api.ErrForm] < 1000 {
		t.Errorf("%v", seen)
	}
}

// Bytes in no pattern at all, and very many of them.
func TestReadOfAnyBytes(t *testing.T) {
	next := numbers(13)
	l := requests()
	for range 40000 {
		a := l[next(len(l))]
		b := make([]byte, next(20))
		for i := range b {
			b[i] = byte(next(256))
		}
		if follows(t, a, b); len(b) > 0 {
			b[0] = byte(a.Code + 128*next(2))
			follows(t, a, b)
		}
	}
	for _, a := range l {
		for _, x := range []byte{0, 1, 14, 255} {
			b := bytes.Repeat([]byte{x}, 1<<20)
			refuses(t, a, b)
			b[0] = byte(a.Code)
			refuses(t, a, b)
			b[0] = byte(a.Code + 128)
			refuses(t, a, b)
		}
	}
}

func TestReadLeavesWhatIsHandedIn(t *testing.T) {
	for _, c := range samples() {
		whole := append(laid(c.a, c.x), 0x55, 0x55, 0x55)
		kept := bytes.Clone(whole)
		for n := range len(whole) + 1 {
			answer.Read(c.a, whole[:n])
			if !bytes.Equal(whole, kept) {
				t.Fatalf("%d: %x", n, whole)
			}
		}
	}
}

// What is read stays, whatever becomes of the bytes, and they stay, whatever becomes of what is read.
func TestReadSharesNoMemory(t *testing.T) {
	for _, c := range samples() {
		b := append(laid(c.a, c.x), 0x55, 0x55)
		whole := b[:len(b)-2]
		kept := bytes.Clone(b)
		first, _ := answer.Read(c.a, whole)
		second, _ := answer.Read(c.a, whole)
		flood(first.Words, 0xeeee)
		flood(first.Bits, true)
		flood(first.Texts, "other")
		if !bytes.Equal(b, kept) || !alike(second, c.x) {
			t.Errorf("%v: %x, %v", shortAsk(c.a), b[:min(len(b), 12)], short(second))
		}
		flood(second.Bits, false)
		third, _ := answer.Read(c.a, whole)
		flood(b, 0xaa)
		if !alike(third, c.x) {
			t.Errorf("%v: %v, want %v", shortAsk(c.a), short(third), short(c.x))
		}
	}
}

// A request's own lists are no part of what is told of it.
func TestReadSharesNoMemoryWithTheRequest(t *testing.T) {
	a := ask.Ask{Code: 23, Count: 2, Words: []uint16{7, 8}}
	x, e := answer.Read(a, []byte{23, 4, 0, 7, 0, 8})
	flood(a.Words, 0xeeee)
	if !alike(x, answer.Answer{Words: []uint16{7, 8}}) || e != api.OK {
		t.Errorf("%v, %v", x, e)
	}
	flood(x.Words, 0x1111)
	if !slices.Equal(a.Words, []uint16{0xeeee, 0xeeee}) {
		t.Errorf("%v", a.Words)
	}
}
