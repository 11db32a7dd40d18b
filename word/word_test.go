package word_test

import (
	"bytes"
	"math"
	"slices"
	"sync"
	"testing"

	"triune/word"
)

// The calls have just the signatures that the chapter lists.
var (
	_ func(uint16) [2]byte                = word.Put
	_ func([]byte) ([]uint16, bool)       = word.Words
	_ func([]uint16) []byte               = word.Bytes
	_ func([]bool) []byte                 = word.Pack
	_ func([]byte, int) ([]bool, bool)    = word.Bits
	_ func(uint16, uint16, uint16) uint16 = word.Mask
)

// masks are words of all bits, of none, and mixed ones.
var masks = []uint16{0, 0xffff, 1, 2, 0x8000, 0x7fff, 0xfffe, 0x00ff, 0xff00, 0x5555, 0xaaaa, 0x0f0f, 0x1234, 0xf2, 0x25, 0x9c63}

// bitsOf are the n lowest bits of x, the lowest first.
func bitsOf(x uint64, n int) []bool {
	l := make([]bool, n)
	for i := range l {
		l[i] = x/(uint64(1)<<i)%2 == 1
	}
	return l
}

// long are n words of which no two neighbours are alike.
func long(n int) []uint16 {
	l := make([]uint16, n)
	x := uint32(1)
	for i := range l {
		x = x*1664525 + 1013904223
		l[i] = uint16(x >> 16)
	}
	return l
}

// longBits are n bits in no short pattern.
func longBits(n int) []bool {
	l := make([]bool, n)
	for i, x := range long(n) {
		l[i] = x > 0x7fff
	}
	return l
}

// listsOfWords are words of ordinary numbers, and of the edges.
func listsOfWords() [][]uint16 {
	all := [][]uint16{nil, {}, {0}, {1}, {0xffff}, {0x0100}, {0, 0}, {0x0102, 0xff00}, masks}
	for _, n := range []int{3, 7, 8, 125, 126, 127, 1000} {
		all = append(all, long(n))
	}
	return all
}

func TestPutOfEachWord(t *testing.T) {
	for n := range 1 << 16 {
		if b := word.Put(uint16(n)); int(b[0]) != n/256 || int(b[1]) != n%256 {
			t.Fatalf("%04x: %x", n, b)
		}
	}
	if b := word.Put(0x1234); b != [2]byte{0x12, 0x34} {
		t.Errorf("%x", b)
	}
}

func TestBytesOfWords(t *testing.T) {
	for _, c := range []struct {
		l []uint16
		b []byte
	}{
		{nil, nil},
		{[]uint16{}, nil},
		{[]uint16{0}, []byte{0, 0}},
		{[]uint16{1}, []byte{0, 1}},
		{[]uint16{0x0100}, []byte{1, 0}},
		{[]uint16{0x0102, 0xff00}, []byte{1, 2, 0xff, 0}},
		{[]uint16{0xffff, 0x00ff, 0x8001}, []byte{0xff, 0xff, 0, 0xff, 0x80, 1}},
		{[]uint16{0x6b, 3}, []byte{0, 0x6b, 0, 3}},
	} {
		if b := word.Bytes(c.l); !bytes.Equal(b, c.b) {
			t.Errorf("%x: %x, want %x", c.l, b, c.b)
		}
		if l, is := word.Words(c.b); !slices.Equal(l, c.l) || !is {
			t.Errorf("%x: %x, %v, want %x", c.b, l, is, c.l)
		}
	}
}

// Bytes are those of Put, one word's behind the other's.
func TestBytesAreThoseOfPut(t *testing.T) {
	for _, l := range listsOfWords() {
		var want []byte
		for _, n := range l {
			two := word.Put(n)
			want = append(want, two[0], two[1])
		}
		if b := word.Bytes(l); !bytes.Equal(b, want) {
			t.Errorf("%d words: %x, want %x", len(l), b, want)
		}
	}
}

func TestWordsOfNothing(t *testing.T) {
	for _, b := range [][]byte{nil, {}} {
		if l, is := word.Words(b); len(l) != 0 || !is {
			t.Errorf("%x: %x, %v", b, l, is)
		}
	}
}

func TestWordsOfAnOddNumberOfBytes(t *testing.T) {
	for n := 1; n < 300; n += 2 {
		if l, is := word.Words(make([]byte, n)); len(l) != 0 || is {
			t.Errorf("%d bytes: %x, %v", n, l, is)
		}
	}
	for x := range 256 {
		if l, is := word.Words([]byte{byte(x)}); len(l) != 0 || is {
			t.Errorf("%x: %x, %v", x, l, is)
		}
	}
	if l, is := word.Words([]byte{1, 2, 3}); len(l) != 0 || is {
		t.Errorf("%x, %v", l, is)
	}
}

func TestEachWordComesBack(t *testing.T) {
	for n := range 1 << 16 {
		two := word.Put(uint16(n))
		if l, is := word.Words(two[:]); !slices.Equal(l, []uint16{uint16(n)}) || !is {
			t.Fatalf("%04x: %x, %v", n, l, is)
		}
	}
}

func TestWordsComeBackFromTheirBytes(t *testing.T) {
	for _, l := range listsOfWords() {
		b := word.Bytes(l)
		back, is := word.Words(b)
		if !slices.Equal(back, l) || !is {
			t.Errorf("%d words: %x, %v", len(l), back, is)
		}
		if again := word.Bytes(back); !bytes.Equal(again, b) {
			t.Errorf("%d words: %x, want %x", len(l), again, b)
		}
	}
}

func TestPackOfBits(t *testing.T) {
	for _, c := range []struct {
		name string
		l    []bool
		b    []byte
	}{
		{"nil", nil, nil},
		{"empty", []bool{}, nil},
		{"a bit 0", []bool{false}, []byte{0}},
		{"a bit 1", []bool{true}, []byte{1}},
		{"the document's example", []bool{true, false, true}, []byte{5}},
		{"the last of seven", []bool{false, false, false, false, false, false, true}, []byte{0x40}},
		{"the last of eight", []bool{false, false, false, false, false, false, false, true}, []byte{0x80}},
		{"the first of eight", []bool{true, false, false, false, false, false, false, false}, []byte{1}},
		{"eight 1", bitsOf(0xff, 8), []byte{0xff}},
		{"eight mixed ones", bitsOf(0xcd, 8), []byte{0xcd}},
		{"eight 0", make([]bool, 8), []byte{0}},
		{"nine 0", make([]bool, 9), []byte{0, 0}},
		{"nine 1", bitsOf(0x1ff, 9), []byte{0xff, 1}},
		{"the last of nine", bitsOf(0x100, 9), []byte{0, 1}},
		{"nine mixed ones", bitsOf(0x183, 9), []byte{0x83, 1}},
		{"the published 0xcd, 0x6b, 5 of 19", bitsOf(0x056bcd, 19), []byte{0xcd, 0x6b, 5}},
		{"sixteen", bitsOf(0x8001, 16), []byte{1, 0x80}},
	} {
		if b := word.Pack(c.l); !bytes.Equal(b, c.b) {
			t.Errorf("%s: %x, want %x", c.name, b, c.b)
		}
		if l, is := word.Bits(c.b, len(c.l)); !slices.Equal(l, c.l) || !is {
			t.Errorf("%s: %v, %v", c.name, l, is)
		}
	}
}

// Of each number of bits, up to 12, all the bits there are.
func TestPackOfAllShortBits(t *testing.T) {
	for n := range 13 {
		for x := range uint64(1) << n {
			l := bitsOf(x, n)
			want := []byte{byte(x), byte(x >> 8)}[:(n+7)/8]
			if b := word.Pack(l); !bytes.Equal(b, want) {
				t.Fatalf("%v: %x, want %x", l, b, want)
			}
			if back, is := word.Bits(want, n); !slices.Equal(back, l) || !is {
				t.Fatalf("%x, %d: %v, %v", want, n, back, is)
			}
		}
	}
}

// A single bit stands in just one place of the bytes.
func TestPackOfEachSingleBit(t *testing.T) {
	for n := range 40 {
		for i := range n {
			l := make([]bool, n)
			l[i] = true
			want := make([]byte, (n+7)/8)
			want[i/8] = []byte{1, 2, 4, 8, 16, 32, 64, 128}[i%8]
			if b := word.Pack(l); !bytes.Equal(b, want) {
				t.Fatalf("%d of %d: %x, want %x", i, n, b, want)
			}
		}
	}
}

func TestBitsComeBackFromTheirBytes(t *testing.T) {
	for _, n := range []int{0, 1, 2, 7, 8, 9, 15, 16, 17, 48, 63, 64, 65, 1968, 2000, 2001} {
		l := longBits(n)
		b := word.Pack(l)
		back, is := word.Bits(b, n)
		if !slices.Equal(back, l) || !is {
			t.Errorf("%d bits: %v, %v", n, back, is)
		}
		if again := word.Pack(back); !bytes.Equal(again, b) {
			t.Errorf("%d bits: %x, want %x", n, again, b)
		}
	}
}

// Bits are told just where some n bits have these bytes as their Pack: here all bytes, up to two of them, are held against all bits.
func TestBitsAreThoseWhosePackItIs(t *testing.T) {
	for n := -2; n < 20; n++ {
		for size := range 3 {
			for x := range uint64(1) << (8 * size) {
				b := []byte{byte(x), byte(x >> 8)}[:size]
				want := n >= 0 && (n+7)/8 == size && x < uint64(1)<<max(n, 0)
				l, is := word.Bits(b, n)
				if is != want || is && !slices.Equal(l, bitsOf(x, n)) || !is && len(l) != 0 {
					t.Fatalf("%x, %d: %v, %v", b, n, l, is)
				}
			}
		}
	}
}

func TestBitsWhereThereAreNone(t *testing.T) {
	for _, c := range []struct {
		name string
		b    []byte
		n    int
	}{
		{"below 0, of nothing", nil, -1},
		{"below 0, of no bytes", []byte{}, -1},
		{"below 0, of a byte", []byte{0}, -1},
		{"-7, of nothing", nil, -7},
		{"-8, of a byte", []byte{0}, -8},
		{"-9, of a byte", []byte{0}, -9},
		{"the lowest number, of nothing", nil, math.MinInt},
		{"the lowest number, of a byte", []byte{0}, math.MinInt},
		{"one above the lowest number, of a byte", []byte{0}, math.MinInt + 1},
		{"the highest number, of nothing", nil, math.MaxInt},
		{"the highest number, of a byte", []byte{0}, math.MaxInt},
		{"seven below the highest number, of nothing", nil, math.MaxInt - 7},
		{"a bit of nothing", nil, 1},
		{"eight of nothing", nil, 8},
		{"none of a byte", []byte{0}, 0},
		{"none of a byte that is 1", []byte{1}, 0},
		{"nine of a byte", []byte{1}, 9},
		{"eight of two bytes", []byte{1, 0}, 8},
		{"a bit of two bytes", []byte{1, 0}, 1},
		{"sixteen of three bytes", []byte{1, 1, 0}, 16},
		{"seventeen of two bytes", []byte{1, 1}, 17},
		{"the bit behind one is 1", []byte{2}, 1},
		{"the last bit behind one is 1", []byte{0x80}, 1},
		{"the bit behind three is 1", []byte{0x0d}, 3},
		{"the bit behind seven is 1", []byte{0x80}, 7},
		{"the bit behind nine is 1", []byte{0, 2}, 9},
		{"the last bit behind nine is 1", []byte{0xff, 0x81}, 9},
		{"all bits behind nine are 1", []byte{0xff, 0xff}, 9},
	} {
		if l, is := word.Bits(c.b, c.n); len(l) != 0 || is {
			t.Errorf("%s: %v, %v", c.name, l, is)
		}
	}
}

// A bit that is turned behind the last one is never missed, whatever the number of bits.
func TestBitsBehindTheLastAreZero(t *testing.T) {
	for n := range 70 {
		l := longBits(n)
		for at := n; at < (n+7)/8*8; at++ {
			b := word.Pack(l)
			b[at/8] |= 1 << (at % 8)
			if back, is := word.Bits(b, n); len(back) != 0 || is {
				t.Errorf("%d bits, turned at %d: %v, %v", n, at, back, is)
			}
		}
	}
}

func TestMaskOfTheDocument(t *testing.T) {
	for _, c := range []struct{ n, and, or, want uint16 }{
		{0x12, 0xf2, 0x25, 0x17}, // the published example
		{5, 0, 9, 9},
		{5, 0xffff, 9, 5},
		{0, 0xffff, 0xffff, 0},
		{0xffff, 0, 0, 0},
		{0xffff, 0, 0xffff, 0xffff},
		{0, 0, 0xffff, 0xffff},
		{0xffff, 0x00ff, 0, 0x00ff},
		{0x1234, 0xff00, 0xabcd, 0x12cd},
		{0x1234, 0x0ff0, 0xabcd, 0xa23d},
		{0x8000, 0x7fff, 0, 0},
		{0, 0x7fff, 0x8000, 0x8000},
	} {
		if n := word.Mask(c.n, c.and, c.or); n != c.want {
			t.Errorf("%04x, %04x, %04x: %04x, want %04x", c.n, c.and, c.or, n, c.want)
		}
	}
}

// masked is a word by two masks, one bit after the other.
func masked(n, and, or uint16) uint16 {
	out := uint16(0)
	for i := range 16 {
		from := or
		if and>>i&1 == 1 {
			from = n
		}
		out |= from & (1 << i)
	}
	return out
}

func TestMaskBitByBit(t *testing.T) {
	for _, and := range masks {
		for _, or := range masks {
			for _, n := range masks {
				if m, want := word.Mask(n, and, or), masked(n, and, or); m != want {
					t.Fatalf("%04x, %04x, %04x: %04x, want %04x", n, and, or, m, want)
				}
			}
		}
	}
}

// At each place the eight bits that three words may have there, beside bits that are all 0 and all 1.
func TestMaskAtEachPlace(t *testing.T) {
	for i := range 16 {
		for x := range uint16(8) {
			for _, rest := range []uint16{0, 0xffff &^ (1 << i)} {
				n, and, or := x&1<<i|rest, x>>1&1<<i|rest, x>>2&1<<i|rest
				if m, want := word.Mask(n, and, or), masked(n, and, or); m != want {
					t.Errorf("%04x, %04x, %04x: %04x, want %04x", n, and, or, m, want)
				}
			}
		}
	}
}

func TestMaskOfAllOnesChangesNothing(t *testing.T) {
	for n := range 1 << 16 {
		for _, or := range masks {
			if m := word.Mask(uint16(n), 0xffff, or); m != uint16(n) {
				t.Fatalf("%04x, %04x: %04x", n, or, m)
			}
		}
	}
}

func TestMaskOfNoOnesIsTheOther(t *testing.T) {
	for or := range 1 << 16 {
		for _, n := range masks {
			if m := word.Mask(n, 0, uint16(or)); m != uint16(or) {
				t.Fatalf("%04x, %04x: %04x", n, or, m)
			}
		}
	}
}

func TestTheSameMaskOnceMoreChangesNothing(t *testing.T) {
	for n := range 1 << 16 {
		for _, and := range masks {
			for _, or := range masks[:6] {
				once := word.Mask(uint16(n), and, or)
				if twice := word.Mask(once, and, or); twice != once {
					t.Fatalf("%04x, %04x, %04x: %04x, then %04x", n, and, or, once, twice)
				}
			}
		}
	}
}

// roomy are the things of list, with three more behind them that no call may reach.
func roomy[T any](list []T, behind T) []T {
	return append(slices.Clone(list), behind, behind, behind)
}

func TestWhatIsHandedInStays(t *testing.T) {
	b := roomy([]byte{1, 2, 0xff, 0x80, 5, 6, 7, 8}, 0x55)
	l := roomy([]uint16{0x0102, 0xff80, 0x0506}, 0x5555)
	bits := roomy(longBits(20), true)
	keptB, keptL, keptBits := slices.Clone(b), slices.Clone(l), slices.Clone(bits)
	for n := range len(b) {
		word.Words(b[:n])
		word.Bits(b[:n], 8*n)
		word.Bits(b[:n], 8*n-1)
	}
	for n := range len(l) {
		word.Bytes(l[:n])
	}
	for n := range len(bits) {
		word.Pack(bits[:n])
	}
	if !bytes.Equal(b, keptB) || !slices.Equal(l, keptL) || !slices.Equal(bits, keptBits) {
		t.Errorf("%x, %x, %v", b, l, bits)
	}
}

// flood writes over all of an answer, and behind it.
func flood[T any](list []T, by T) {
	list = list[:cap(list)]
	for i := range list {
		list[i] = by
	}
}

func TestAnswersShareNoMemory(t *testing.T) {
	b := roomy([]byte{1, 2, 3, 4}, 0x55)
	l := roomy([]uint16{0x0102, 0x0304}, 0x5555)
	bits := roomy(longBits(20), true)
	keptB, keptL, keptBits := slices.Clone(b), slices.Clone(l), slices.Clone(bits)

	words, _ := word.Words(b[:4])
	flood(words, 0xeeee)
	told, _ := word.Bits(b[:4], 32)
	flood(told, true)
	flood(word.Bytes(l[:2]), 0xee)
	flood(word.Pack(bits[:20]), 0xee)
	if !bytes.Equal(b, keptB) || !slices.Equal(l, keptL) || !slices.Equal(bits, keptBits) {
		t.Errorf("handed in: %x, %x, %v", b, l, bits)
	}

	words, _ = word.Words(b[:4])
	told, _ = word.Bits(b[:4], 32)
	laid, packed := word.Bytes(l[:2]), word.Pack(bits[:20])
	flood(b, 0xee)
	flood(l, 0xeeee)
	flood(bits, false)
	if !slices.Equal(words, keptL[:2]) || !slices.Equal(told, bitsOf(0x04030201, 32)) {
		t.Errorf("told: %x, %v", words, told)
	}
	if !bytes.Equal(laid, keptB[:4]) || !bytes.Equal(packed, word.Pack(keptBits[:20])) {
		t.Errorf("laid: %x, %x", laid, packed)
	}
}

func TestCallsFromSeveralGoroutines(t *testing.T) {
	l, bits := long(20), longBits(20)
	b, packed := word.Bytes(l), word.Pack(bits)
	var all sync.WaitGroup
	for range 8 {
		all.Go(func() {
			for range 100 {
				words, is := word.Words(b)
				told, are := word.Bits(packed, 20)
				if !is || !are || !bytes.Equal(word.Bytes(words), b) || !bytes.Equal(word.Pack(told), packed) {
					t.Error(words, told)
				}
			}
		})
	}
	all.Wait()
}
