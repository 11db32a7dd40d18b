package crc_test

import (
	"bytes"
	"slices"
	"sync"
	"testing"

	"triune/crc"
)

// The calls have just the signatures that the chapter lists.
var (
	_ func([]byte) uint16         = crc.Sum
	_ func(uint16, []byte) uint16 = crc.More
	_ func([]byte) []byte         = crc.Put
	_ func([]byte) ([]byte, bool) = crc.Cut
)

// published are bytes with sums that are known from elsewhere.
var published = []struct {
	name string
	b    []byte
	sum  uint16
}{
	{"nil", nil, 0xffff},
	{"empty", []byte{}, 0xffff},
	{"a byte 0", []byte{0}, 0x40bf},
	{"a byte ff", []byte{0xff}, 0x00ff},
	{"the document's example", []byte("123456789"), 0x4b37},
	{"layer 3's example", []byte{1, 4, 0, 0, 0, 10}, 0x0d70},
	{"reads 3 words of unit 17", []byte{0x11, 3, 0, 0x6b, 0, 3}, 0x8776},
	{"reads 10 words of unit 1", []byte{1, 3, 0, 0, 0, 10}, 0xcdc5},
	{"the published 2, 7", []byte{2, 7}, 0x1241},
}

// long are n bytes of which no two neighbours are alike.
func long(n int) []byte {
	b := make([]byte, n)
	x := uint32(1)
	for i := range b {
		x = x*1664525 + 1013904223
		b[i] = byte(x >> 24)
	}
	return b
}

// divided is the sum by another way: bits, lowest first, as a polynomial over two elements, divided by x^16 + x^15 + x^2 + 1.
func divided(b []byte) uint16 {
	bits := make([]byte, 8*len(b)+16)
	for i := range 8 * len(b) {
		bits[i] = b[i/8] >> (i % 8) & 1
	}
	for i := range 16 {
		bits[i] ^= 1
	}
	for i := range 8 * len(b) {
		if bits[i] == 1 {
			for _, at := range []int{0, 1, 14, 16} {
				bits[i+at] ^= 1
			}
		}
	}
	sum := uint16(0)
	for i, bit := range bits[8*len(b):] {
		sum |= uint16(bit) << i
	}
	return sum
}

// turned are bytes, of which the bits of pattern, from the bit at on, are turned (of each byte the lowest one first).
func turned(b []byte, at int, pattern uint16) []byte {
	out := bytes.Clone(b)
	for i := range 16 {
		if pattern>>i&1 == 1 {
			out[(at+i)/8] ^= 1 << ((at + i) % 8)
		}
	}
	return out
}

// samples are bytes of ordinary lengths, and of the edges.
func samples() [][]byte {
	l := [][]byte{nil, {}, {0}, {0, 0}, {0xff}, {0xff, 0xff}, {0, 0, 0, 0, 0, 0, 0, 0}}
	for _, p := range published {
		l = append(l, p.b)
	}
	for _, n := range []int{1, 2, 3, 7, 8, 253, 254, 256, 1000} {
		l = append(l, long(n))
	}
	return l
}

func TestSumIsAsPublished(t *testing.T) {
	for _, p := range published {
		if sum := crc.Sum(p.b); sum != p.sum {
			t.Errorf("%s: %04x, want %04x", p.name, sum, p.sum)
		}
	}
}

func TestSumOfEachSingleByte(t *testing.T) {
	for x := range 256 {
		b := []byte{byte(x)}
		if sum, want := crc.Sum(b), divided(b); sum != want {
			t.Errorf("%x: %04x, want %04x", x, sum, want)
		}
	}
}

func TestSumByAnotherWay(t *testing.T) {
	for _, b := range samples() {
		if sum, want := crc.Sum(b), divided(b); sum != want {
			t.Errorf("%d bytes: %04x, want %04x", len(b), sum, want)
		}
	}
}

func TestMoreOfNothingIsTheSum(t *testing.T) {
	for _, sum := range []uint16{0, 1, 0x8000, 0xa001, 0xfffe, 0xffff} {
		if n := crc.More(sum, nil); n != sum {
			t.Errorf("%04x: nil: %04x", sum, n)
		}
		if n := crc.More(sum, []byte{}); n != sum {
			t.Errorf("%04x: empty: %04x", sum, n)
		}
	}
}

func TestMoreFromAnySum(t *testing.T) {
	for _, c := range []struct {
		sum  uint16
		b    []byte
		want uint16
	}{
		{0, []byte{0}, 0},
		{0, []byte{1}, 0xc0c1},
		{1, []byte{0}, 0xc0c1},
		{1, []byte{1}, 0},
		{0x0100, []byte{0}, 1},
		{0xff00, []byte{0}, 0xff},
		{0xffff, []byte("123456789"), 0x4b37},
	} {
		if n := crc.More(c.sum, c.b); n != c.want {
			t.Errorf("%04x, %x: %04x, want %04x", c.sum, c.b, n, c.want)
		}
	}
}

// Each of the sums there are must go on as if it were that of bytes; two bytes lead from the first sum to any of them.
func TestMoreFromEachSum(t *testing.T) {
	seen := map[uint16]int{}
	for n := range 1 << 16 {
		b := []byte{byte(n >> 8), byte(n)}
		sum := crc.Sum(b)
		seen[sum]++
		if more, want := crc.More(sum, []byte{0x5a}), crc.Sum(append(b, 0x5a)); more != want {
			t.Fatalf("%04x: %04x, want %04x", sum, more, want)
		}
	}
	if len(seen) != 1<<16 {
		t.Errorf("%d sums", len(seen))
	}
}

func TestPutLaysTheSumBehind(t *testing.T) {
	for _, b := range samples() {
		sum := divided(b)
		want := append(bytes.Clone(b), byte(sum), byte(sum>>8))
		if p := crc.Put(b); !bytes.Equal(p, want) {
			t.Errorf("%d bytes: %x, want %x", len(b), p, want)
		}
	}
	if p := crc.Put([]byte{1, 4, 0, 0, 0, 10}); !bytes.Equal(p, []byte{1, 4, 0, 0, 0, 10, 0x70, 0x0d}) {
		t.Errorf("%x", p)
	}
}

func TestPutOfNothing(t *testing.T) {
	for _, b := range [][]byte{nil, {}} {
		if p := crc.Put(b); !bytes.Equal(p, []byte{0xff, 0xff}) {
			t.Errorf("%x", p)
		}
	}
}

func TestCutOfTooFewBytes(t *testing.T) {
	if c, is := crc.Cut(nil); len(c) != 0 || is {
		t.Errorf("nil: %x, %v", c, is)
	}
	if c, is := crc.Cut([]byte{}); len(c) != 0 || is {
		t.Errorf("empty: %x, %v", c, is)
	}
	for x := range 256 {
		if c, is := crc.Cut([]byte{byte(x)}); len(c) != 0 || is {
			t.Errorf("%x: %x, %v", x, c, is)
		}
	}
}

// Of all pairs of bytes just one is the sum of nothing.
func TestCutOfTwoBytes(t *testing.T) {
	for n := range 1 << 16 {
		c, is := crc.Cut([]byte{byte(n >> 8), byte(n)})
		if len(c) != 0 || is != (n == 0xffff) {
			t.Errorf("%04x: %x, %v", n, c, is)
		}
	}
}

func TestCutOfWhatPutTells(t *testing.T) {
	for _, b := range samples() {
		if c, is := crc.Cut(crc.Put(b)); !bytes.Equal(c, b) || !is {
			t.Errorf("%d bytes: %x, %v", len(b), c, is)
		}
	}
}

func TestCutWhereTheSumIsAnotherOne(t *testing.T) {
	p := crc.Put([]byte{1, 4, 0, 0, 0, 10})
	for name, b := range map[string][]byte{
		"bytes of the sum in the other order": {1, 4, 0, 0, 0, 10, 0x0d, 0x70},
		"the sum's lower byte is another one": {1, 4, 0, 0, 0, 10, 0x71, 0x0d},
		"the sum's higher one is":             {1, 4, 0, 0, 0, 10, 0x70, 0x0c},
		"no sum":                              p[:6],
		"half of a sum":                       p[:7],
		"a byte behind":                       append(bytes.Clone(p), 1),
		"the first byte is missing":           p[1:],
		"the bytes in the other order":        {10, 0, 0, 0, 4, 1, 0x70, 0x0d},
		"bytes 0":                             {0, 0, 0, 0},
	} {
		if c, is := crc.Cut(b); len(c) != 0 || is {
			t.Errorf("%s: %x, %v", name, c, is)
		}
	}
}

// Of all the sums that may stand behind bytes just one is theirs.
func TestCutHasOneSumAlone(t *testing.T) {
	b := []byte{1, 4, 0, 0, 0, 10}
	for n := range 1 << 16 {
		c, is := crc.Cut(append(bytes.Clone(b), byte(n), byte(n>>8)))
		if is != (n == 0x0d70) || is != (len(c) == len(b)) || !is && len(c) != 0 {
			t.Errorf("%04x: %x, %v", n, c, is)
		}
	}
}

func TestWhatIsHandedInStays(t *testing.T) {
	room := make([]byte, 8, 20)
	copy(room, crc.Put([]byte{1, 4, 0, 0, 0, 10}))
	before := bytes.Clone(room[:20])
	for n := range len(room) + 1 {
		crc.Sum(room[:n])
		crc.More(7, room[:n])
		crc.Put(room[:n])
		crc.Cut(room[:n])
		if !bytes.Equal(room[:20], before) {
			t.Fatalf("%d bytes: %x", n, room[:20])
		}
	}
}

// flood writes over all of an answer, and behind it.
func flood(b []byte) {
	b = b[:cap(b)]
	for i := range b {
		b[i] ^= 0xff
	}
}

func TestAnswersShareNoMemory(t *testing.T) {
	room := make([]byte, 8, 20)
	copy(room, crc.Put([]byte{1, 4, 0, 0, 0, 10}))
	before := bytes.Clone(room[:20])
	first, second := crc.Put(room), crc.Put(room)
	kept := bytes.Clone(second)
	flood(first)
	if !bytes.Equal(room[:20], before) || !bytes.Equal(second, kept) {
		t.Errorf("Put: %x, %x", room[:20], second)
	}
	first, _ = crc.Cut(room)
	second, _ = crc.Cut(room)
	kept = bytes.Clone(second)
	flood(first)
	if !bytes.Equal(room[:20], before) || !bytes.Equal(second, kept) {
		t.Errorf("Cut: %x, %x", room[:20], second)
	}
	second = append(second, 1, 2)
	if !bytes.Equal(room[:20], before) || !bytes.Equal(second, append(kept, 1, 2)) {
		t.Errorf("behind Cut: %x, %x", room[:20], second)
	}
}

// What is cut ends where it ends: the sum can't be had by a longer piece of it.
func TestCutHasNoSumBehind(t *testing.T) {
	for _, b := range samples() {
		if c, _ := crc.Cut(crc.Put(b)); cap(c) != len(b) {
			t.Errorf("%d bytes: room for %d", len(b), cap(c))
		}
	}
}

func TestSumsOfPartsAreThatOfAll(t *testing.T) {
	for _, b := range samples() {
		sum := crc.Sum(b)
		for n := range len(b) + 1 {
			if parts := crc.More(crc.Sum(b[:n]), b[n:]); parts != sum {
				t.Fatalf("%d of %d bytes: %04x, want %04x", n, len(b), parts, sum)
			}
		}
		each := crc.Sum(nil)
		for part := range slices.Chunk(b, 3) {
			each = crc.More(each, part)
		}
		if each != sum {
			t.Errorf("%d bytes by three: %04x, want %04x", len(b), each, sum)
		}
	}
}

func TestSumOfPutIsNothing(t *testing.T) {
	for _, b := range samples() {
		if sum := crc.Sum(crc.Put(b)); sum != 0 {
			t.Errorf("%d bytes: %04x", len(b), sum)
		}
	}
}

// Each pattern begins by a bit that is turned: one that begins later stands at a later place.
func TestTurnedBitsHaveAnotherSum(t *testing.T) {
	for _, b := range [][]byte{[]byte("123456789"), {0, 0}, {0xff, 0xff, 0xff}} {
		sum := crc.Sum(b)
		for at := range 8 * len(b) {
			most := min(16, 8*len(b)-at)
			for pattern := 1; pattern < 1<<most; pattern += 2 {
				if crc.Sum(turned(b, at, uint16(pattern))) == sum {
					t.Fatalf("%x: %016b turned at %d", b, pattern, at)
				}
			}
		}
	}
}

func TestTurnedBitsAreNotCut(t *testing.T) {
	b := crc.Put([]byte{1, 4, 0, 0, 0, 10})
	for at := range 8 * len(b) {
		most := min(16, 8*len(b)-at)
		for pattern := 1; pattern < 1<<most; pattern += 2 {
			if c, is := crc.Cut(turned(b, at, uint16(pattern))); len(c) != 0 || is {
				t.Fatalf("%016b turned at %d: %x", pattern, at, c)
			}
		}
	}
}

func TestCallsFromSeveralGoroutines(t *testing.T) {
	b := crc.Put([]byte("123456789"))
	var all sync.WaitGroup
	for range 8 {
		all.Go(func() {
			for range 100 {
				c, is := crc.Cut(b)
				if !is || crc.Sum(c) != 0x4b37 || !bytes.Equal(crc.Put(c), b) {
					t.Error(c, is)
				}
			}
		})
	}
	all.Wait()
}
