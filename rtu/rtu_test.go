package rtu_test

import (
	"bytes"
	"sync"
	"testing"

	"triune/api"
	"triune/rtu"
)

// The calls have just the signatures that the chapter lists.
var (
	_ func(rtu.Frame) ([]byte, api.Errno) = rtu.Bytes
	_ func([]byte) (rtu.Frame, api.Errno) = rtu.Read
	_ func(rtu.Frame, rtu.Frame) bool     = rtu.Same
)

// example is the document's frame, and its bytes.
var (
	example = rtu.Frame{Unit: 1, Pdu: []byte{4, 0, 0, 0, 10}}
	exBytes = []byte{1, 4, 0, 0, 0, 10, 0x70, 0x0d}
)

// long are n bytes of which no two neighbours are alike.
func long(n int) []byte {
	b := make([]byte, n)
	x := uint32(1)
	for i := range b {
		x = x*1664525 + 1013904223
		b[i] = byte(x >> 24)
	}
	return b
}

// summed are bytes, and their sum behind them, by another way than the program's: bits, lowest first, as a polynomial over two elements, divided by x^16 + x^15 + x^2 + 1.
func summed(b ...byte) []byte {
	bits := make([]byte, 8*len(b)+16)
	for i := range 8 * len(b) {
		bits[i] = b[i/8] >> (i % 8) & 1
	}
	for i := range 16 {
		bits[i] ^= 1
	}
	for i := range 8 * len(b) {
		if bits[i] == 1 {
			for _, at := range []int{0, 1, 14, 16} {
				bits[i+at] ^= 1
			}
		}
	}
	out := append(bytes.Clone(b), 0, 0)
	for i := range 16 {
		out[len(b)+i/8] |= bits[8*len(b)+i] << (i % 8)
	}
	return out
}

// laid are the bytes that the document asks for of a frame that may be.
func laid(x rtu.Frame) []byte { return summed(append([]byte{x.Unit}, x.Pdu...)...) }

// alike tells whether two frames are the same, without the program's own word for it.
func alike(a, b rtu.Frame) bool { return a.Unit == b.Unit && string(a.Pdu) == string(b.Pdu) }

// nothing tells whether a frame is the zero one.
func nothing(x rtu.Frame) bool { return x.Unit == 0 && len(x.Pdu) == 0 }

// frames are some that may be: ordinary ones, and those at the edges.
func frames() []rtu.Frame {
	l := []rtu.Frame{
		example,
		{Unit: 0, Pdu: []byte{0}},
		{Unit: 255, Pdu: []byte{255}},
		{Unit: 247, Pdu: []byte{0x83, 2}},
		{Unit: 17, Pdu: []byte{3, 0, 0x6b, 0, 3}},
		{Unit: 0, Pdu: make([]byte, api.MostPdu)},
		{Unit: 255, Pdu: bytes.Repeat([]byte{255}, api.MostPdu)},
	}
	for n := 1; n <= api.MostPdu; n++ {
		l = append(l, rtu.Frame{Unit: byte(n), Pdu: long(n)})
	}
	return l
}

func TestBytesOfTheDocument(t *testing.T) {
	if b, e := rtu.Bytes(example); !bytes.Equal(b, exBytes) || e != api.OK {
		t.Errorf("%x, %v", b, e)
	}
	if x, e := rtu.Read(exBytes); !alike(x, example) || e != api.OK {
		t.Errorf("%x, %v", x, e)
	}
}

func TestFramesAreAsPublished(t *testing.T) {
	for _, c := range []struct {
		name string
		x    rtu.Frame
		b    []byte
	}{
		{"reads 3 words of unit 17", rtu.Frame{Unit: 0x11, Pdu: []byte{3, 0, 0x6b, 0, 3}}, []byte{0x11, 3, 0, 0x6b, 0, 3, 0x76, 0x87}},
		{"reads 10 words of unit 1", rtu.Frame{Unit: 1, Pdu: []byte{3, 0, 0, 0, 10}}, []byte{1, 3, 0, 0, 0, 10, 0xc5, 0xcd}},
		{"the published 2, 7", rtu.Frame{Unit: 2, Pdu: []byte{7}}, []byte{2, 7, 0x41, 0x12}},
	} {
		if b, e := rtu.Bytes(c.x); !bytes.Equal(b, c.b) || e != api.OK {
			t.Errorf("%s: %x, %v, want %x", c.name, b, e, c.b)
		}
		if x, e := rtu.Read(c.b); !alike(x, c.x) || e != api.OK {
			t.Errorf("%s: %x, %v", c.name, x, e)
		}
	}
}

func TestBytesOfEachNumberOfBytes(t *testing.T) {
	for n := range 1000 {
		want := api.OK
		switch {
		case n == 0:
			want = api.ErrShort
		case n > 253:
			want = api.ErrMany
		}
		x := rtu.Frame{Unit: 7, Pdu: long(n)}
		b, e := rtu.Bytes(x)
		if e != want {
			t.Errorf("%d: %v, want %v", n, e, want)
		}
		if e == api.OK && !bytes.Equal(b, laid(x)) || e != api.OK && len(b) != 0 {
			t.Errorf("%d: %x", n, b)
		}
	}
}

func TestBytesOfNoPdu(t *testing.T) {
	for _, unit := range []byte{0, 1, 247, 255} {
		for _, pdu := range [][]byte{nil, {}, make([]byte, 0, 10)} {
			if b, e := rtu.Bytes(rtu.Frame{Unit: unit, Pdu: pdu}); len(b) != 0 || e != api.ErrShort {
				t.Errorf("%d: %x, %v", unit, b, e)
			}
		}
	}
}

func TestBytesOfTooLongAPdu(t *testing.T) {
	for _, n := range []int{api.MostPdu + 1, api.MostPdu + 2, api.MostPdu + 3, api.MostPdu + 4, 256, 512, 1 << 16, 1<<16 + 1} {
		if b, e := rtu.Bytes(rtu.Frame{Unit: 1, Pdu: make([]byte, n)}); len(b) != 0 || e != api.ErrMany {
			t.Errorf("%d: %x, %v", n, b, e)
		}
	}
}

func TestBytesOfEachUnit(t *testing.T) {
	for unit := range 256 {
		x := rtu.Frame{Unit: byte(unit), Pdu: []byte{3, 0, 1, 0, 2}}
		b, e := rtu.Bytes(x)
		if !bytes.Equal(b, laid(x)) || e != api.OK {
			t.Errorf("%d: %x, %v", unit, b, e)
		}
		if back, e := rtu.Read(b); !alike(back, x) || e != api.OK {
			t.Errorf("%d: %x, %v", unit, back, e)
		}
	}
}

// At each number of bytes that there may be, and beside it, bytes whose sum is theirs, and such whose sum is another one.
func TestReadOfEachNumberOfBytes(t *testing.T) {
	for n := range 600 {
		good := make([]byte, n)
		if n >= 2 {
			good = summed(long(n - 2)...)
		}
		bad := bytes.Clone(good)
		if n > 0 {
			bad[n-1] ^= 1
		}
		wantGood, wantBad := api.OK, api.ErrSum
		switch {
		case n < 4:
			wantGood, wantBad = api.ErrShort, api.ErrShort
		case n > 256:
			wantGood, wantBad = api.ErrMany, api.ErrMany
		}
		x, e := rtu.Read(good)
		if e != wantGood {
			t.Errorf("%d: %v, want %v", n, e, wantGood)
		}
		if e == api.OK && !alike(x, rtu.Frame{Unit: good[0], Pdu: good[1 : n-2]}) || e != api.OK && !nothing(x) {
			t.Errorf("%d: %x", n, x)
		}
		if x, e := rtu.Read(bad); e != wantBad || !nothing(x) {
			t.Errorf("%d, turned: %x, %v, want %v", n, x, e, wantBad)
		}
	}
}

func TestReadOfTooFewBytes(t *testing.T) {
	for name, b := range map[string][]byte{
		"nil":                         nil,
		"empty":                       {},
		"a byte":                      {1},
		"the sum of nothing":          {0xff, 0xff},
		"a unit, and half of a sum":   {1, 0x7e},
		"a unit, and its sum":         summed(1),
		"a unit, and another sum":     {1, 2, 3},
		"room for more, but no bytes": make([]byte, 0, 300),
		"room for more, three bytes":  make([]byte, 3, 300),
	} {
		if x, e := rtu.Read(b); !nothing(x) || e != api.ErrShort {
			t.Errorf("%s: %x, %v", name, x, e)
		}
	}
}

func TestReadOfTooManyBytes(t *testing.T) {
	for _, n := range []int{api.MostPdu + 4, api.MostPdu + 5, 512, 1 << 16} {
		if x, e := rtu.Read(make([]byte, n)); !nothing(x) || e != api.ErrMany {
			t.Errorf("%d, another sum: %x, %v", n, x, e)
		}
		if x, e := rtu.Read(summed(long(n - 2)...)); !nothing(x) || e != api.ErrMany {
			t.Errorf("%d: %x, %v", n, x, e)
		}
	}
}

func TestReadWhereTheSumIsAnotherOne(t *testing.T) {
	for name, b := range map[string][]byte{
		"bytes of the sum in the other order": {1, 4, 0, 0, 0, 10, 0x0d, 0x70},
		"the sum's lower byte is another one": {1, 4, 0, 0, 0, 10, 0x71, 0x0d},
		"the sum's higher one is":             {1, 4, 0, 0, 0, 10, 0x70, 0x0c},
		"the sum of the Pdu alone":            append([]byte{1}, summed(4, 0, 0, 0, 10)...),
		"another unit":                        {2, 4, 0, 0, 0, 10, 0x70, 0x0d},
		"another Pdu":                         {1, 4, 0, 0, 0, 11, 0x70, 0x0d},
		"no sum":                              exBytes[:6],
		"half of a sum":                       exBytes[:7],
		"a byte behind":                       append(bytes.Clone(exBytes), 1),
		"the first byte is missing":           exBytes[1:],
		"least, of bytes 0":                   {0, 0, 0, 0},
		"most, of bytes 0":                    make([]byte, api.MostPdu+3),
	} {
		if x, e := rtu.Read(b); !nothing(x) || e != api.ErrSum {
			t.Errorf("%s: %x, %v", name, x, e)
		}
	}
}

// Of all the sums that may stand behind a frame just one is its own.
func TestReadHasOneSumAlone(t *testing.T) {
	for n := range 1 << 16 {
		x, e := rtu.Read(append(bytes.Clone(exBytes[:6]), byte(n), byte(n>>8)))
		if n == 0x0d70 {
			if !alike(x, example) || e != api.OK {
				t.Errorf("%x, %v", x, e)
			}
		} else if !nothing(x) || e != api.ErrSum {
			t.Errorf("%04x: %x, %v", n, x, e)
		}
	}
}

// A frame that is cut off is none, and so is one that begins too late.
func TestReadOfAPieceOfAFrame(t *testing.T) {
	for n := range exBytes {
		want := api.ErrSum
		if n < 4 {
			want = api.ErrShort
		}
		if x, e := rtu.Read(exBytes[:n]); !nothing(x) || e != want {
			t.Errorf("the first %d: %x, %v, want %v", n, x, e, want)
		}
		if x, e := rtu.Read(exBytes[len(exBytes)-n:]); !nothing(x) || e != want {
			t.Errorf("the last %d: %x, %v, want %v", n, x, e, want)
		}
	}
}

func TestSame(t *testing.T) {
	most := long(api.MostPdu)
	last := bytes.Clone(most)
	last[api.MostPdu-1]++
	for _, c := range []struct {
		name string
		a, b rtu.Frame
		want bool
	}{
		{"both nothing", rtu.Frame{}, rtu.Frame{}, true},
		{"nil and empty", rtu.Frame{}, rtu.Frame{Pdu: []byte{}}, true},
		{"nil and empty, of a unit", rtu.Frame{Unit: 9}, rtu.Frame{Unit: 9, Pdu: []byte{}}, true},
		{"nil and empty with room", rtu.Frame{Unit: 9}, rtu.Frame{Unit: 9, Pdu: make([]byte, 0, 5)}, true},
		{"nil and empty, of other units", rtu.Frame{Unit: 9}, rtu.Frame{Unit: 8, Pdu: []byte{}}, false},
		{"the example", example, rtu.Frame{Unit: 1, Pdu: []byte{4, 0, 0, 0, 10}}, true},
		{"with more room", example, rtu.Frame{Unit: 1, Pdu: append(make([]byte, 0, 20), 4, 0, 0, 0, 10)}, true},
		{"another unit", example, rtu.Frame{Unit: 2, Pdu: []byte{4, 0, 0, 0, 10}}, false},
		{"another unit, 0", example, rtu.Frame{Pdu: []byte{4, 0, 0, 0, 10}}, false},
		{"units whose lower bits are alike", rtu.Frame{Unit: 0x81}, rtu.Frame{Unit: 1}, false},
		{"another first byte", example, rtu.Frame{Unit: 1, Pdu: []byte{3, 0, 0, 0, 10}}, false},
		{"another byte amid", example, rtu.Frame{Unit: 1, Pdu: []byte{4, 0, 1, 0, 10}}, false},
		{"another last byte", example, rtu.Frame{Unit: 1, Pdu: []byte{4, 0, 0, 0, 11}}, false},
		{"the bytes in another order", example, rtu.Frame{Unit: 1, Pdu: []byte{10, 0, 0, 0, 4}}, false},
		{"a byte less", example, rtu.Frame{Unit: 1, Pdu: []byte{4, 0, 0, 0}}, false},
		{"a byte more", example, rtu.Frame{Unit: 1, Pdu: []byte{4, 0, 0, 0, 10, 0}}, false},
		{"a byte more in front", example, rtu.Frame{Unit: 1, Pdu: []byte{1, 4, 0, 0, 0, 10}}, false},
		{"no bytes", example, rtu.Frame{Unit: 1}, false},
		{"no bytes, and a byte 0", rtu.Frame{}, rtu.Frame{Pdu: []byte{0}}, false},
		{"a byte 0, and two", rtu.Frame{Pdu: []byte{0}}, rtu.Frame{Pdu: []byte{0, 0}}, false},
		{"the unit in the Pdu", rtu.Frame{Unit: 1, Pdu: []byte{2}}, rtu.Frame{Unit: 2, Pdu: []byte{1}}, false},
		{"the longest", rtu.Frame{Unit: 1, Pdu: most}, rtu.Frame{Unit: 1, Pdu: bytes.Clone(most)}, true},
		{"the longest, another last byte", rtu.Frame{Unit: 1, Pdu: most}, rtu.Frame{Unit: 1, Pdu: last}, false},
		{"longer than may be", rtu.Frame{Pdu: long(1000)}, rtu.Frame{Pdu: long(1000)}, true},
		{"longer than may be, by a byte", rtu.Frame{Pdu: long(1000)}, rtu.Frame{Pdu: long(999)}, false},
	} {
		if is := rtu.Same(c.a, c.b); is != c.want {
			t.Errorf("%s: %v", c.name, is)
		}
		if is := rtu.Same(c.b, c.a); is != c.want {
			t.Errorf("%s, the other way round: %v", c.name, is)
		}
	}
}

func TestSameOfEachTwoUnits(t *testing.T) {
	for a := range 256 {
		for b := range 256 {
			if is := rtu.Same(rtu.Frame{Unit: byte(a), Pdu: []byte{3}}, rtu.Frame{Unit: byte(b), Pdu: []byte{3}}); is != (a == b) {
				t.Errorf("%d, %d: %v", a, b, is)
			}
		}
	}
}

// A byte that is another one is seen at each place.
func TestSameAtEachPlace(t *testing.T) {
	for _, n := range []int{1, 2, 5, api.MostPdu, 300} {
		for i := range n {
			pdu := long(n)
			pdu[i] ^= 0x10
			if rtu.Same(rtu.Frame{Unit: 1, Pdu: long(n)}, rtu.Frame{Unit: 1, Pdu: pdu}) {
				t.Errorf("%d of %d", i, n)
			}
		}
	}
}

func TestFramesComeBackFromTheirBytes(t *testing.T) {
	for _, x := range frames() {
		b, e := rtu.Bytes(x)
		if !bytes.Equal(b, laid(x)) || e != api.OK {
			t.Errorf("%x: %x, %v", x, b, e)
		}
		back, e := rtu.Read(b)
		if !alike(back, x) || e != api.OK || !rtu.Same(back, x) {
			t.Errorf("%x: %x, %v", x, back, e)
		}
	}
}

func TestBytesComeBackFromTheirFrames(t *testing.T) {
	for n := 2; n <= api.MostPdu+1; n++ {
		b := summed(long(n)...)
		x, e := rtu.Read(b)
		if e != api.OK {
			t.Errorf("%x: %v", b, e)
		}
		if back, e := rtu.Bytes(x); !bytes.Equal(back, b) || e != api.OK {
			t.Errorf("%x: %x, %v", b, back, e)
		}
	}
}

// All frames of the least length there are.
func TestShortestFramesComeBack(t *testing.T) {
	for n := range 1 << 16 {
		x := rtu.Frame{Unit: byte(n >> 8), Pdu: []byte{byte(n)}}
		b, e := rtu.Bytes(x)
		if !bytes.Equal(b, laid(x)) || e != api.OK {
			t.Fatalf("%x: %x, %v", x, b, e)
		}
		if back, e := rtu.Read(b); !alike(back, x) || e != api.OK {
			t.Fatalf("%x: %x, %v", x, back, e)
		}
	}
}

// turned are bytes, of which the bits of pattern, from the bit at on, are turned (of each byte the lowest one first).
func turned(b []byte, at int, pattern uint16) []byte {
	out := bytes.Clone(b)
	for i := range 16 {
		if pattern>>i&1 == 1 {
			out[(at+i)/8] ^= 1 << ((at + i) % 8)
		}
	}
	return out
}

// refuses tells of each place of a frame's bytes whether they have no frame when each of patterns is turned there, as far as its bits stand in them.
func refuses(t *testing.T, x rtu.Frame, patterns []uint16) {
	t.Helper()
	b, _ := rtu.Bytes(x)
	for at := range 8 * len(b) {
		for _, pattern := range patterns {
			if left := 8*len(b) - at; left < 16 && pattern>>left != 0 {
				continue
			}
			if back, e := rtu.Read(turned(b, at, pattern)); !nothing(back) || e != api.ErrSum {
				t.Fatalf("%x: %016b turned at %d: %x, %v", x, pattern, at, back, e)
			}
		}
	}
}

// Each pattern begins by a bit that is turned: one that begins later stands at a later place.
func TestTurnedBitsHaveNoFrame(t *testing.T) {
	var all []uint16
	for pattern := 1; pattern < 1<<16; pattern += 2 {
		all = append(all, uint16(pattern))
	}
	refuses(t, example, all)
	refuses(t, rtu.Frame{Unit: 0, Pdu: []byte{0}}, all)
	refuses(t, rtu.Frame{Unit: 255, Pdu: []byte{255, 255}}, all)
}

// In the longest frames, all runs of turned bits, and such as have but their ends turned.
func TestTurnedBitsOfTheLongestHaveNoFrame(t *testing.T) {
	var some []uint16
	for i := range 16 {
		some = append(some, 1|1<<i, 1<<i|(1<<i-1))
	}
	some = append(some, 0xa001, 0x8005, 0xc003, 0x5555, 0xaaab)
	refuses(t, rtu.Frame{Unit: 1, Pdu: long(api.MostPdu)}, some)
	refuses(t, rtu.Frame{Unit: 0, Pdu: make([]byte, api.MostPdu)}, some)
}

// roomy are bytes, with three more behind them that no call may reach.
func roomy(b []byte) []byte { return append(bytes.Clone(b), 0x55, 0x55, 0x55) }

// flood writes over all of an answer, and behind it.
func flood(b []byte) {
	b = b[:cap(b)]
	for i := range b {
		b[i] ^= 0xff
	}
}

func TestWhatIsHandedInStays(t *testing.T) {
	for _, list := range [][]byte{exBytes, summed(long(api.MostPdu + 1)...), long(300)} {
		b := roomy(list)
		kept := bytes.Clone(b)
		for n := range len(list) + 1 {
			rtu.Read(b[:n])
			rtu.Bytes(rtu.Frame{Unit: 7, Pdu: b[:n]})
			rtu.Same(rtu.Frame{Unit: 7, Pdu: b[:n]}, rtu.Frame{Unit: 7, Pdu: b})
			if !bytes.Equal(b, kept) {
				t.Fatalf("%d bytes: %x", n, b)
			}
		}
	}
}

func TestAnswersShareNoMemory(t *testing.T) {
	for _, x := range frames() {
		pdu, b := roomy(x.Pdu), roomy(laid(x))
		keptPdu, keptB := bytes.Clone(pdu), bytes.Clone(b)
		n, m := len(x.Pdu), len(laid(x))

		first, _ := rtu.Bytes(rtu.Frame{Unit: x.Unit, Pdu: pdu[:n]})
		second, _ := rtu.Bytes(rtu.Frame{Unit: x.Unit, Pdu: pdu[:n]})
		read, _ := rtu.Read(b[:m])
		again, _ := rtu.Read(b[:m])
		flood(first)
		flood(read.Pdu)
		if !bytes.Equal(pdu, keptPdu) || !bytes.Equal(b, keptB) {
			t.Fatalf("handed in: %x, %x", pdu, b)
		}
		flood(pdu)
		flood(b)
		if !bytes.Equal(second, laid(x)) || !alike(again, x) {
			t.Fatalf("told: %x, %x", second, again)
		}
	}
}

func TestCallsFromSeveralGoroutines(t *testing.T) {
	var all sync.WaitGroup
	for range 8 {
		all.Go(func() {
			for range 100 {
				x, e := rtu.Read(exBytes)
				if b, again := rtu.Bytes(x); e != api.OK || again != api.OK || !bytes.Equal(b, exBytes) || !rtu.Same(x, example) {
					t.Error(x, b, e, again)
				}
				if x, e := rtu.Read(exBytes[1:]); !nothing(x) || e != api.ErrSum {
					t.Error(x, e)
				}
			}
		})
	}
	all.Wait()
}
