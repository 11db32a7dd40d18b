package ask_test

import (
	"bytes"
	"slices"
	"testing"

	"triune/api"
	"triune/ask"
)

// behinds are bytes that may stand behind others.
func behinds() [][]byte {
	return [][]byte{{0}, {255}, {0, 0}, {0, 1}, {255, 0}, {14, 1, 0}, {3, 0, 107, 0, 3}, make([]byte, 300)}
}

func TestParseOfNoBytes(t *testing.T) {
	for _, b := range [][]byte{nil, {}, make([]byte, 0, 10), laid(samples()[0])[:0]} {
		refuses(t, b, api.NoFunction)
	}
}

// Whatever is behind it, and even if that would be right behind another code.
func TestParseOfCodesThatAreNone(t *testing.T) {
	for code := range 256 {
		if slices.Contains(codes(), code) {
			continue
		}
		refuses(t, []byte{byte(code)}, api.NoFunction)
		for _, behind := range behinds() {
			refuses(t, append([]byte{byte(code)}, behind...), api.NoFunction)
		}
		for _, a := range samples() {
			b := laid(a)
			b[0] = byte(code)
			refuses(t, b, api.NoFunction)
		}
	}
}

func TestParseOfEachSecondByteOf43(t *testing.T) {
	refuses(t, []byte{43}, api.NoValue)
	for x := range 256 {
		if x == 14 {
			continue
		}
		refuses(t, []byte{43, byte(x)}, api.NoFunction)
		refuses(t, []byte{43, byte(x), 1, 0}, api.NoFunction)
		refuses(t, []byte{43, byte(x), 14, 0}, api.NoFunction)
		refuses(t, []byte{43, byte(x), 1, 0, 0}, api.NoFunction)
		refuses(t, []byte{43, byte(x), 9}, api.NoFunction)
	}
}

func TestParseOfEachThirdAndFourthByteOf43(t *testing.T) {
	for n := range 1 << 16 {
		count, addr := n/256, n%256
		b := []byte{43, 14, byte(count), byte(addr)}
		if within(count, 1, 4) {
			parses(t, b, ask.Ask{Code: 43, Addr: addr, Count: count}, 0)
		} else {
			refuses(t, b, api.NoValue)
		}
		refuses(t, b[:3], api.NoValue)
		refuses(t, b[:2], api.NoValue)
		refuses(t, append(b, 0), api.NoValue)
	}
}

func TestParseOfBytesThatAreCutOff(t *testing.T) {
	for _, a := range samples() {
		b := laid(a)
		for n := 1; n < len(b); n++ {
			refuses(t, b[:n], api.NoValue)
			refuses(t, bytes.Clone(b[:n]), api.NoValue) // with no bytes behind that may be taken by mistake
		}
	}
}

func TestParseOfBytesWithMoreBehind(t *testing.T) {
	for _, a := range samples() {
		b := laid(a)
		for _, behind := range behinds() {
			refuses(t, slices.Concat(b, behind), api.NoValue)
		}
		refuses(t, append(b, b...), api.NoValue)
	}
}

// All counts there are, at the first place, in the midst, and at the last one.
func TestParseOfEachCount(t *testing.T) {
	for _, c := range []struct{ code, most int }{{1, 2000}, {2, 2000}, {3, 125}, {4, 125}} {
		for n := range 1 << 16 {
			for _, addr := range []int{0, 65000, 65535} {
				b := slices.Concat([]byte{byte(c.code)}, two(addr), two(n))
				switch {
				case n < 1 || n > c.most:
					refuses(t, b, api.NoValue)
				case addr+n > 65536:
					refuses(t, b, api.NoAddress)
				default:
					parses(t, b, ask.Ask{Code: c.code, Addr: addr, Count: n}, 0)
				}
			}
		}
	}
}

func TestParseOfEachWordOfABit(t *testing.T) {
	for n := range 1 << 16 {
		b := slices.Concat([]byte{5, 1, 2}, two(n))
		switch n {
		case 0xff00, 0:
			parses(t, b, ask.Ask{Code: 5, Addr: 258, Bits: []bool{n != 0}}, 0)
		default:
			refuses(t, b, api.NoValue)
		}
	}
}

func TestParseOfBitsBeyondTheLastOne(t *testing.T) {
	for _, bits := range []func(int) []bool{someBits, func(n int) []bool { return make([]bool, n) }} {
		for n := 1; n <= 1968; n++ {
			a := ask.Ask{Code: 15, Addr: n, Bits: bits(n)}
			b := laid(a)
			parses(t, b, a, 0)
			for bit := n % 8; bit != 0 && bit < 8; bit++ {
				more := bytes.Clone(b)
				more[len(b)-1] |= 1 << bit
				refuses(t, more, api.NoValue)
			}
		}
	}
}

// How many there are, how many bytes are said to follow on, and how many do: they must fit one another.
func TestParseOfCountsThatDoNotFit(t *testing.T) {
	seen := map[int]int{}
	for _, head := range [][]byte{{15, 0, 9}, {16, 0, 9}, {23, 0, 9, 0, 1, 0, 9}} {
		for many := range 300 {
			for size := range 256 {
				b := slices.Concat(head, two(many), []byte{byte(size)}, make([]byte, size))
				seen[follows(t, b)]++
				seen[follows(t, b[:len(b)-1])]++
				seen[follows(t, append(b, 0))]++
			}
		}
	}
	if seen[0] != 299+123+121 || seen[0]+seen[api.NoValue] != 3*3*300*256 {
		t.Errorf("%v", seen)
	}
}

// Some would be right if but a byte of how many there are counted, or of how many bytes these take.
func TestParseOfTooMany(t *testing.T) {
	list := func(head []byte, many, size int) []byte {
		return slices.Concat(head, two(many), []byte{byte(size)}, make([]byte, size))
	}
	for n := 1969; n <= 2040; n++ {
		refuses(t, list([]byte{15, 0, 0}, n, (n+7)/8), api.NoValue)
	}
	for n := 124; n <= 127; n++ {
		refuses(t, list([]byte{16, 0, 0}, n, 2*n), api.NoValue)
	}
	for n := 122; n <= 127; n++ {
		refuses(t, list([]byte{23, 0, 0, 0, 1, 0, 0}, n, 2*n), api.NoValue)
	}
	for _, n := range []int{128, 129, 130, 251, 256, 257, 0x8001, 65535} {
		refuses(t, list([]byte{16, 0, 0}, n, 2*n), api.NoValue)
		refuses(t, list([]byte{16, 0, 0}, n, 2*n%256), api.NoValue)
		refuses(t, list([]byte{23, 0, 0, 0, 1, 0, 0}, n, 2*n%256), api.NoValue)
	}
	for _, n := range []int{1976, 2040, 2048, 2049, 2056, 4096, 4104, 65528, 65535} {
		refuses(t, list([]byte{15, 0, 0}, n, (n+7)/8), api.NoValue)
		refuses(t, list([]byte{15, 0, 0}, n, (n+7)/8%256), api.NoValue)
		refuses(t, list([]byte{15, 0, 0}, n, (n%256+7)/8), api.NoValue)
	}
	for _, head := range [][]byte{{15, 0, 0}, {16, 0, 0}, {23, 0, 0, 0, 1, 0, 0}} {
		refuses(t, list(head, 0, 0), api.NoValue)
	}
	for n := range 300 {
		b := list(slices.Concat([]byte{23, 0, 0}, two(n), []byte{0, 0}), 1, 2)
		if within(n, 1, 125) {
			parses(t, b, ask.Ask{Code: 23, Count: n, Words: []uint16{0}}, 0)
		} else {
			refuses(t, b, api.NoValue)
		}
	}
}

func TestParseOfPlacesBeyondTheLastOne(t *testing.T) {
	for _, a := range samples() {
		n := max(a.Count, len(a.Words), len(a.Bits))
		switch a.Code {
		case 22, 43: // whatever bytes such a one has, its places are there
			continue
		case 23:
			n = a.Count
		}
		for addr := 65536 - n; addr <= 65535; addr++ {
			b := laid(a)
			copy(b[1:], two(addr))
			if addr+n > 65536 {
				refuses(t, b, api.NoAddress)
				continue
			}
			a.Addr = addr
			parses(t, b, a, 0)
		}
	}
}

// Of 23 both the places that are read and those that are written must be there.
func TestParseOfBothPlacesBeyondTheLastOne(t *testing.T) {
	for _, n := range []int{1, 2, 125} {
		for _, m := range []int{1, 2, 121} {
			for _, addr := range []int{0, 65535 - n, 65536 - n, 65537 - n, 65535} {
				for _, to := range []int{0, 65535 - m, 65536 - m, 65537 - m, 65535} {
					if addr > 65535 || to > 65535 {
						continue
					}
					a := ask.Ask{Code: 23, Addr: addr, Count: n, To: to, Words: someWords(m)}
					if addr+n > 65536 || to+m > 65536 {
						refuses(t, laid(a), api.NoAddress)
					} else {
						parses(t, laid(a), a, 0)
					}
				}
			}
		}
	}
}

// What is wrong with its form and with its places is wrong with its form.
func TestParseOfNoValueAheadOfNoAddress(t *testing.T) {
	for _, b := range [][]byte{
		{1, 255, 255, 0, 0},
		{1, 255, 255, 7, 209},
		{2, 255, 255, 0, 2, 0},
		{2, 255, 255, 0},
		{3, 255, 255, 0, 126},
		{4, 255, 255, 255, 255},
		{15, 255, 255, 0, 2, 1, 4},
		{15, 255, 255, 0, 2, 2, 3, 0},
		{15, 255, 255, 0, 2, 1},
		{15, 255, 255, 0, 2, 1, 3, 0},
		{16, 255, 255, 0, 2, 4, 0, 0, 0},
		{16, 255, 255, 0, 2, 3, 0, 0, 0},
		{16, 255, 255, 0, 2, 4, 0, 0, 0, 0, 0},
		{23, 255, 255, 0, 2, 255, 255, 0, 2, 4, 0, 0, 0},
		{23, 255, 255, 0, 126, 255, 255, 0, 1, 2, 0, 0},
		{23, 255, 255, 0, 2, 0, 0, 0, 0, 0},
	} {
		refuses(t, b, api.NoValue)
	}
}

func TestParseOfNoAddress(t *testing.T) {
	for _, b := range [][]byte{
		{1, 255, 255, 0, 2},
		{1, 255, 255, 7, 208},
		{2, 248, 49, 7, 208},
		{3, 255, 132, 0, 125},
		{4, 255, 255, 0, 2},
		{15, 255, 255, 0, 2, 1, 3},
		{15, 255, 249, 0, 8, 1, 255},
		{16, 255, 255, 0, 2, 4, 0, 0, 0, 0},
		{23, 255, 255, 0, 2, 0, 0, 0, 1, 2, 0, 0},
		{23, 0, 0, 0, 1, 255, 255, 0, 2, 4, 0, 0, 0, 0},
		{23, 255, 255, 0, 2, 255, 255, 0, 2, 4, 0, 0, 0, 0},
	} {
		refuses(t, b, api.NoAddress)
	}
}

func TestParseOfAllShortBytes(t *testing.T) {
	for n := range 1 << 16 {
		follows(t, []byte{byte(n >> 8)})
		follows(t, two(n))
		for _, behind := range [][]byte{{0}, {1}, {0, 1}, {255, 0}, {1, 1, 0}, {1, 2, 0, 0}} {
			follows(t, append(two(n), behind...))
		}
	}
}

// Each byte of a request turned into each other one.
func TestParseOfEachByteChanged(t *testing.T) {
	for _, a := range samples() {
		b := laid(a)
		for i := range min(len(b), 14) {
			for x := range 256 {
				c := bytes.Clone(b)
				c[i] = byte(x)
				follows(t, c)
			}
		}
	}
}

func TestParseOfManyBytes(t *testing.T) {
	next := numbers(9)
	seen := map[int]int{}
	l := samples()
	for range 60000 {
		b := laid(l[next(len(l))])
		for range next(3) {
			b[next(min(len(b), 12))] = []byte{0, 1, 2, 4, 255, byte(next(256))}[next(6)]
		}
		switch next(8) {
		case 0:
			b = b[:next(len(b)+1)]
		case 1:
			b = append(b, make([]byte, next(4))...)
		}
		seen[follows(t, b)]++
	}
	for _, x := range []int{0, api.NoFunction, api.NoAddress, api.NoValue} {
		if seen[x] < 100 {
			t.Errorf("%d: %d", x, seen[x])
		}
	}
}

// Bytes in no pattern at all, and very many of them.
func TestParseOfAnyBytes(t *testing.T) {
	next := numbers(13)
	for range 40000 {
		b := make([]byte, next(20))
		for i := range b {
			b[i] = byte(next(256))
		}
		if len(b) > 0 {
			follows(t, b)
			b[0] = byte(codes()[next(len(codes()))])
		}
		follows(t, b)
	}
	for _, code := range codes() {
		b := make([]byte, 1<<20)
		b[0], b[1] = byte(code), 14
		refuses(t, b, api.NoValue)
		refuses(t, append([]byte{byte(code), 14}, bytes.Repeat([]byte{255}, 1<<20)...), api.NoValue)
	}
}

func TestParseLeavesWhatIsHandedIn(t *testing.T) {
	for _, a := range samples() {
		whole := append(laid(a), 0x55, 0x55, 0x55)
		kept := bytes.Clone(whole)
		for n := range len(whole) + 1 {
			ask.Parse(whole[:n])
			if !bytes.Equal(whole, kept) {
				t.Fatalf("%d: %x", n, whole)
			}
		}
	}
}
