package mbap_test

import (
	"bytes"
	"slices"
	"sync"
	"testing"

	"triune/api"
	"triune/mbap"
)

// The calls have just the signatures that the chapter lists.
var (
	_ func(mbap.Frame) ([]byte, api.Errno)      = mbap.Bytes
	_ func([]byte) (mbap.Frame, int, api.Errno) = mbap.Read
	_ func(mbap.Frame, mbap.Frame) bool         = mbap.Same
)

// example is the document's frame, and its bytes.
var (
	example = mbap.Frame{Tid: 1, Unit: 2, Pdu: []byte{3}}
	exBytes = []byte{0, 1, 0, 0, 0, 2, 2, 3}
)

// published is a request as it is published, and its bytes.
var (
	published = mbap.Frame{Tid: 0x1234, Unit: 17, Pdu: []byte{3, 0, 107, 0, 3}}
	pubBytes  = []byte{0x12, 0x34, 0, 0, 0, 6, 17, 3, 0, 107, 0, 3}
)

// long are n bytes of which no two neighbours are alike.
func long(n int) []byte {
	b := make([]byte, n)
	x := uint32(1)
	for i := range b {
		x = x*1664525 + 1013904223
		b[i] = byte(x >> 24)
	}
	return b
}

// laid are the bytes that the document asks for of a frame that may be, without the program's own words.
func laid(x mbap.Frame) []byte {
	rest := 1 + len(x.Pdu)
	b := []byte{byte(x.Tid / 256), byte(x.Tid % 256), 0, 0, byte(rest / 256), byte(rest % 256), x.Unit}
	return append(b, x.Pdu...)
}

// told is what the document asks for of Read.
func told(b []byte) (mbap.Frame, int, api.Errno) {
	if len(b) >= 4 && (b[2] != 0 || b[3] != 0) {
		return mbap.Frame{}, 0, api.ErrForm
	}
	if len(b) < 6 {
		return mbap.Frame{}, 0, api.ErrShort
	}
	rest := int(b[4])*256 + int(b[5])
	if rest < 2 || rest > 254 {
		return mbap.Frame{}, 0, api.ErrForm
	}
	if len(b) < 6+rest {
		return mbap.Frame{}, 0, api.ErrShort
	}
	return mbap.Frame{Tid: uint16(b[0])*256 + uint16(b[1]), Unit: b[6], Pdu: b[7 : 6+rest]}, 6 + rest, api.OK
}

// alike tells whether two frames are the same, without the program's own word for it.
func alike(a, b mbap.Frame) bool {
	return a.Tid == b.Tid && a.Unit == b.Unit && string(a.Pdu) == string(b.Pdu)
}

// reads holds Read of bytes against a frame, and how many it has.
func reads(t *testing.T, b []byte, x mbap.Frame, n int) {
	t.Helper()
	if got, m, e := mbap.Read(b); !alike(got, x) || m != n || e != api.OK {
		t.Errorf("%d bytes, %x: %x, %d, %v, want %x, %d", len(b), b[:min(len(b), 12)], got, m, e, x, n)
	}
}

// refuses holds Read of bytes against an error; every other result is nothing then.
func refuses(t *testing.T, b []byte, want api.Errno) {
	t.Helper()
	if x, n, e := mbap.Read(b); !alike(x, mbap.Frame{}) || n != 0 || e != want {
		t.Errorf("%d bytes, %x: %x, %d, %v, want %v", len(b), b[:min(len(b), 12)], x, n, e, want)
	}
}

// frames are some that may be: ordinary ones, and those at the edges.
func frames() []mbap.Frame {
	l := []mbap.Frame{
		example,
		published,
		{Tid: 0, Unit: 0, Pdu: []byte{0}},
		{Tid: 0xffff, Unit: 255, Pdu: []byte{255}},
		{Tid: 0x00ff, Unit: 247, Pdu: []byte{0x83, 2}},
		{Tid: 0xff00, Unit: 1, Pdu: []byte{0, 0}},
		{Tid: 0, Unit: 0, Pdu: make([]byte, api.MostPdu)},
		{Tid: 0xffff, Unit: 255, Pdu: bytes.Repeat([]byte{255}, api.MostPdu)},
	}
	for n := 1; n <= api.MostPdu; n++ {
		l = append(l, mbap.Frame{Tid: uint16(n * 259), Unit: byte(n), Pdu: long(n)})
	}
	return l
}

// behinds are bytes that may stand behind a frame.
func behinds() [][]byte {
	return [][]byte{nil, {0}, {0xff}, {0, 1}, {9, 9, 1, 1}, exBytes, exBytes[:7], pubBytes, long(7), long(1000), make([]byte, 300), bytes.Repeat([]byte{255}, 300)}
}

func TestBytesOfTheDocument(t *testing.T) {
	for _, c := range []struct {
		x mbap.Frame
		b []byte
	}{
		{example, exBytes},
		{published, pubBytes},
		{mbap.Frame{Tid: 0xfedc, Unit: 255, Pdu: []byte{0x83, 2}}, []byte{0xfe, 0xdc, 0, 0, 0, 3, 255, 0x83, 2}},
	} {
		if b, e := mbap.Bytes(c.x); !bytes.Equal(b, c.b) || e != api.OK {
			t.Errorf("%x: %x, %v, want %x", c.x, b, e, c.b)
		}
		reads(t, c.b, c.x, len(c.b))
	}
}

func TestBytesOfEachNumberOfBytes(t *testing.T) {
	for n := range 1000 {
		want := api.OK
		switch {
		case n == 0:
			want = api.ErrShort
		case n > 253:
			want = api.ErrMany
		}
		x := mbap.Frame{Tid: 0x0708, Unit: 7, Pdu: long(n)}
		b, e := mbap.Bytes(x)
		if e != want {
			t.Errorf("%d: %v, want %v", n, e, want)
		}
		if e == api.OK && !bytes.Equal(b, laid(x)) || e != api.OK && len(b) != 0 {
			t.Errorf("%d: %x", n, b)
		}
	}
}

func TestBytesOfNoPdu(t *testing.T) {
	for _, tid := range []uint16{0, 1, 0xffff} {
		for _, unit := range []byte{0, 1, 255} {
			for _, pdu := range [][]byte{nil, {}, make([]byte, 0, 10)} {
				if b, e := mbap.Bytes(mbap.Frame{Tid: tid, Unit: unit, Pdu: pdu}); len(b) != 0 || e != api.ErrShort {
					t.Errorf("%d, %d: %x, %v", tid, unit, b, e)
				}
			}
		}
	}
}

// The greatest numbers would be as many as may be, if but a byte, or two, of them counted.
func TestBytesOfTooLongAPdu(t *testing.T) {
	for _, n := range []int{api.MostPdu + 1, api.MostPdu + 2, api.MostPdu + 3, api.MostPdu + 4, 256, 257, 512, 1 << 16, 1<<16 + 1, 1<<20 + 5} {
		if b, e := mbap.Bytes(mbap.Frame{Tid: 1, Unit: 1, Pdu: make([]byte, n)}); len(b) != 0 || e != api.ErrMany {
			t.Errorf("%d: %d bytes, %v", n, len(b), e)
		}
	}
}

func TestEachTidComesBack(t *testing.T) {
	for tid := range 1 << 16 {
		x := mbap.Frame{Tid: uint16(tid), Unit: 9, Pdu: []byte{3, 0, 1}}
		b, e := mbap.Bytes(x)
		if !bytes.Equal(b, laid(x)) || e != api.OK {
			t.Fatalf("%04x: %x, %v", tid, b, e)
		}
		reads(t, b, x, len(b))
	}
}

func TestEachUnitComesBack(t *testing.T) {
	for unit := range 256 {
		x := mbap.Frame{Tid: 0x0102, Unit: byte(unit), Pdu: []byte{3, 0, 1, 0, 2}}
		b, e := mbap.Bytes(x)
		if !bytes.Equal(b, laid(x)) || e != api.OK {
			t.Fatalf("%d: %x, %v", unit, b, e)
		}
		reads(t, b, x, len(b))
	}
}

// All that the third and fourth byte may be: with but 0 it goes on, as far as there is something.
func TestReadOfEachThirdAndFourthByte(t *testing.T) {
	for n := range 1 << 16 {
		b := bytes.Clone(pubBytes)
		b[2], b[3] = byte(n>>8), byte(n)
		if n == 0 {
			refuses(t, b[:4], api.ErrShort)
			reads(t, b, published, len(pubBytes))
			continue
		}
		refuses(t, b[:4], api.ErrForm)
		refuses(t, b[:5], api.ErrForm)
		refuses(t, b[:6], api.ErrForm)
		refuses(t, b, api.ErrForm)
	}
}

// A third byte that is wrong is not told till the fourth is there.
func TestReadOfThreeBytes(t *testing.T) {
	for x := range 256 {
		refuses(t, []byte{1, 2, byte(x)}, api.ErrShort)
		refuses(t, []byte{byte(x), byte(x), byte(x)}, api.ErrShort)
	}
}

// A fifth byte that can't be right is not told till the sixth is there.
func TestReadOfFiveBytes(t *testing.T) {
	for x := range 256 {
		refuses(t, []byte{1, 2, 0, 0, byte(x)}, api.ErrShort)
		refuses(t, []byte{1, 2, 0, 1, byte(x)}, api.ErrForm)
		refuses(t, []byte{1, 2, 1, 0, byte(x)}, api.ErrForm)
	}
}

// All that the fifth and sixth byte may tell: of 6 bytes alone, of 7, of one fewer than they tell, of as many, and of more.
func TestReadOfEachFifthAndSixthByte(t *testing.T) {
	for rest := range 1 << 16 {
		b := append([]byte{8, 9, 0, 0, byte(rest >> 8), byte(rest)}, long(300)...)
		if rest < 2 || rest > 254 {
			refuses(t, b[:6], api.ErrForm)
			refuses(t, b[:7], api.ErrForm)
			refuses(t, b[:8], api.ErrForm)
			refuses(t, b[:min(len(b), 6+rest)], api.ErrForm)
			refuses(t, b, api.ErrForm)
			continue
		}
		x := mbap.Frame{Tid: 0x0809, Unit: b[6], Pdu: b[7 : 6+rest]}
		refuses(t, b[:6], api.ErrShort)
		refuses(t, b[:7], api.ErrShort)
		refuses(t, b[:5+rest], api.ErrShort)
		reads(t, b[:6+rest], x, 6+rest)
		reads(t, b[:7+rest], x, 6+rest)
		reads(t, b, x, 6+rest)
	}
}

// What the fifth and sixth byte tell may be wrong even where there are as many bytes as they tell.
func TestReadOfTooLongAFrame(t *testing.T) {
	for _, rest := range []int{255, 256, 257, 258, 510, 512, 0x0202, 0xfffe, 0xffff} {
		b := append([]byte{8, 9, 0, 0, byte(rest >> 8), byte(rest)}, long(rest)...)
		refuses(t, b, api.ErrForm)
		refuses(t, append(b, 1, 2, 3), api.ErrForm)
	}
}

func TestReadOfTooFewBytes(t *testing.T) {
	for name, b := range map[string][]byte{
		"nil":                              nil,
		"empty":                            {},
		"room for more, but no bytes":      make([]byte, 0, 300),
		"a byte":                           {1},
		"a transaction":                    {1, 2},
		"half of what is 0":                {1, 2, 0},
		"half of it, another one":          {1, 2, 9},
		"what is 0":                        {1, 2, 0, 0},
		"half of how many":                 {1, 2, 0, 0, 0},
		"half of how many, too many":       {1, 2, 0, 0, 1},
		"the least, no unit":               {1, 2, 0, 0, 0, 2},
		"the most, no unit":                {1, 2, 0, 0, 0, 254},
		"a unit, no Pdu":                   {1, 2, 0, 0, 0, 2, 9},
		"a unit, no Pdu, and room for one": append(make([]byte, 0, 300), 1, 2, 0, 0, 0, 2, 9),
		"a Pdu, a byte less":               pubBytes[:11],
		"the longest, a byte less":         append([]byte{1, 2, 0, 0, 0, 254}, long(253)...),
	} {
		if x, n, e := mbap.Read(b); !alike(x, mbap.Frame{}) || n != 0 || e != api.ErrShort {
			t.Errorf("%s: %x, %d, %v", name, x, n, e)
		}
	}
}

// Of several errors the one named first: what is wrong, ahead of what is missing.
func TestReadOfSeveralErrors(t *testing.T) {
	for name, b := range map[string][]byte{
		"the third, and no more":                   {1, 2, 1, 0},
		"the fourth, and no more":                  {1, 2, 0, 1},
		"both, and no more":                        {1, 2, 255, 255},
		"the third, and half of how many":          {1, 2, 1, 0, 0},
		"the fourth, and no unit":                  {1, 2, 0, 1, 0, 2},
		"the fourth, and too few":                  {1, 2, 0, 1, 0, 1},
		"the third, and too many":                  {1, 2, 1, 0, 1, 0},
		"the third, too many, and a unit":          {1, 2, 1, 0, 9, 9, 9},
		"the fourth, and a Pdu that is too short":  {1, 2, 0, 128, 0, 6, 17, 3, 0},
		"none, and no unit":                        {1, 2, 0, 0, 0, 0},
		"too few, and no unit":                     {1, 2, 0, 0, 0, 1},
		"too few, and a unit":                      {1, 2, 0, 0, 0, 1, 9},
		"too many, and no unit":                    {1, 2, 0, 0, 0, 255},
		"too many by the fifth, and no unit":       {1, 2, 0, 0, 1, 0},
		"too many by the fifth, the sixth is good": {1, 2, 0, 0, 1, 2, 9, 3},
		"the most there may be told, and a unit":   {1, 2, 0, 0, 255, 255, 9},
	} {
		if x, n, e := mbap.Read(b); !alike(x, mbap.Frame{}) || n != 0 || e != api.ErrForm {
			t.Errorf("%s: %x, %d, %v", name, x, n, e)
		}
	}
}

func TestReadOfTheLeastAndTheGreatest(t *testing.T) {
	for _, x := range []mbap.Frame{
		{Tid: 0x0102, Unit: 3, Pdu: []byte{4}},
		{Tid: 0xa1b2, Unit: 0xc3, Pdu: []byte{0xd4}},
		{Tid: 0x0102, Unit: 3, Pdu: long(api.MostPdu)},
		{Tid: 0xa1b2, Unit: 0xc3, Pdu: bytes.Repeat([]byte{0xd4}, api.MostPdu)},
	} {
		b := laid(x)
		for _, behind := range behinds() {
			reads(t, slices.Concat(b, behind), x, len(b))
		}
		refuses(t, b[:len(b)-1], api.ErrShort)
	}
}

// Of bytes in no pattern, but that a frame's head stands in most of them, right or nearly so.
func TestReadOfManyBytes(t *testing.T) {
	seed := uint32(7)
	next := func(n int) int {
		seed = seed*1664525 + 1013904223
		return int(seed>>16) % n
	}
	seen := map[api.Errno]int{}
	for range 100000 {
		b := make([]byte, next(300))
		for i := range b {
			b[i] = byte(next(256))
		}
		copy(b[min(2, len(b)):], []byte{byte(next(40) / 39), byte(next(40) / 39), byte(next(40) / 39), byte(next(256))}[:next(5)])
		x, n, e := mbap.Read(b)
		wantX, wantN, wantE := told(b)
		if !alike(x, wantX) || n != wantN || e != wantE {
			t.Fatalf("%x: %x, %d, %v, want %x, %d, %v", b, x, n, e, wantX, wantN, wantE)
		}
		seen[e]++
	}
	for _, e := range []api.Errno{api.OK, api.ErrForm, api.ErrShort} {
		if seen[e] < 1000 {
			t.Errorf("%v but %d times", e, seen[e])
		}
	}
}

func TestSame(t *testing.T) {
	most := long(api.MostPdu)
	last := bytes.Clone(most)
	last[api.MostPdu-1]++
	for _, c := range []struct {
		name string
		a, b mbap.Frame
		want bool
	}{
		{"both nothing", mbap.Frame{}, mbap.Frame{}, true},
		{"nil and empty", mbap.Frame{}, mbap.Frame{Pdu: []byte{}}, true},
		{"nil and empty, of a unit", mbap.Frame{Tid: 4, Unit: 9}, mbap.Frame{Tid: 4, Unit: 9, Pdu: []byte{}}, true},
		{"nil and empty with room", mbap.Frame{Unit: 9}, mbap.Frame{Unit: 9, Pdu: make([]byte, 0, 5)}, true},
		{"nil and empty, of other units", mbap.Frame{Unit: 9}, mbap.Frame{Unit: 8, Pdu: []byte{}}, false},
		{"nil and empty, of other transactions", mbap.Frame{Tid: 9}, mbap.Frame{Tid: 8, Pdu: []byte{}}, false},
		{"alike", published, mbap.Frame{Tid: 0x1234, Unit: 17, Pdu: []byte{3, 0, 107, 0, 3}}, true},
		{"with more room", published, mbap.Frame{Tid: 0x1234, Unit: 17, Pdu: append(make([]byte, 0, 20), 3, 0, 107, 0, 3)}, true},
		{"another transaction", published, mbap.Frame{Tid: 0x1235, Unit: 17, Pdu: []byte{3, 0, 107, 0, 3}}, false},
		{"a transaction of another higher byte", published, mbap.Frame{Tid: 0x1334, Unit: 17, Pdu: []byte{3, 0, 107, 0, 3}}, false},
		{"a transaction, its bytes the other way round", published, mbap.Frame{Tid: 0x3412, Unit: 17, Pdu: []byte{3, 0, 107, 0, 3}}, false},
		{"the transaction 0", published, mbap.Frame{Unit: 17, Pdu: []byte{3, 0, 107, 0, 3}}, false},
		{"another unit", published, mbap.Frame{Tid: 0x1234, Unit: 18, Pdu: []byte{3, 0, 107, 0, 3}}, false},
		{"another unit, 0", published, mbap.Frame{Tid: 0x1234, Pdu: []byte{3, 0, 107, 0, 3}}, false},
		{"units whose lower bits are alike", mbap.Frame{Unit: 0x81}, mbap.Frame{Unit: 1}, false},
		{"the unit as the transaction", mbap.Frame{Tid: 1, Unit: 2}, mbap.Frame{Tid: 2, Unit: 1}, false},
		{"the unit as a part of the transaction", mbap.Frame{Tid: 0x0100}, mbap.Frame{Unit: 1}, false},
		{"another first byte", published, mbap.Frame{Tid: 0x1234, Unit: 17, Pdu: []byte{4, 0, 107, 0, 3}}, false},
		{"another byte amid", published, mbap.Frame{Tid: 0x1234, Unit: 17, Pdu: []byte{3, 0, 106, 0, 3}}, false},
		{"another last byte", published, mbap.Frame{Tid: 0x1234, Unit: 17, Pdu: []byte{3, 0, 107, 0, 2}}, false},
		{"the bytes in another order", published, mbap.Frame{Tid: 0x1234, Unit: 17, Pdu: []byte{3, 0, 3, 0, 107}}, false},
		{"a byte less", published, mbap.Frame{Tid: 0x1234, Unit: 17, Pdu: []byte{3, 0, 107, 0}}, false},
		{"a byte more", published, mbap.Frame{Tid: 0x1234, Unit: 17, Pdu: []byte{3, 0, 107, 0, 3, 0}}, false},
		{"a byte more in front", published, mbap.Frame{Tid: 0x1234, Unit: 17, Pdu: []byte{17, 3, 0, 107, 0, 3}}, false},
		{"no bytes", published, mbap.Frame{Tid: 0x1234, Unit: 17}, false},
		{"no bytes, and a byte 0", mbap.Frame{}, mbap.Frame{Pdu: []byte{0}}, false},
		{"a byte 0, and two", mbap.Frame{Pdu: []byte{0}}, mbap.Frame{Pdu: []byte{0, 0}}, false},
		{"the unit in the Pdu", mbap.Frame{Unit: 1, Pdu: []byte{2}}, mbap.Frame{Unit: 2, Pdu: []byte{1}}, false},
		{"the longest", mbap.Frame{Unit: 1, Pdu: most}, mbap.Frame{Unit: 1, Pdu: bytes.Clone(most)}, true},
		{"the longest, another last byte", mbap.Frame{Unit: 1, Pdu: most}, mbap.Frame{Unit: 1, Pdu: last}, false},
		{"longer than may be", mbap.Frame{Pdu: long(1000)}, mbap.Frame{Pdu: long(1000)}, true},
		{"longer than may be, by a byte", mbap.Frame{Pdu: long(1000)}, mbap.Frame{Pdu: long(999)}, false},
	} {
		if is := mbap.Same(c.a, c.b); is != c.want {
			t.Errorf("%s: %v", c.name, is)
		}
		if is := mbap.Same(c.b, c.a); is != c.want {
			t.Errorf("%s, the other way round: %v", c.name, is)
		}
	}
}

// A bit that is another one is seen at each place of a frame.
func TestSameAtEachBit(t *testing.T) {
	for _, x := range []mbap.Frame{example, published, {Tid: 0xffff, Unit: 255, Pdu: long(api.MostPdu)}, {}} {
		for i := range 16 {
			if mbap.Same(x, mbap.Frame{Tid: x.Tid ^ 1<<i, Unit: x.Unit, Pdu: x.Pdu}) {
				t.Errorf("%x: bit %d of the Tid", x, i)
			}
		}
		for i := range 8 {
			if mbap.Same(x, mbap.Frame{Tid: x.Tid, Unit: x.Unit ^ 1<<i, Pdu: x.Pdu}) {
				t.Errorf("%x: bit %d of the Unit", x, i)
			}
		}
		for i := range 8 * len(x.Pdu) {
			pdu := bytes.Clone(x.Pdu)
			pdu[i/8] ^= 1 << (i % 8)
			if mbap.Same(x, mbap.Frame{Tid: x.Tid, Unit: x.Unit, Pdu: pdu}) {
				t.Errorf("%x: bit %d of the Pdu", x, i)
			}
		}
	}
}

func TestSameOfPdusThatEndEarlier(t *testing.T) {
	for n := range api.MostPdu + 2 {
		for m := range api.MostPdu + 2 {
			a, b := mbap.Frame{Tid: 1, Unit: 1, Pdu: long(n)}, mbap.Frame{Tid: 1, Unit: 1, Pdu: long(m)}
			if is := mbap.Same(a, b); is != (n == m) {
				t.Fatalf("%d, %d: %v", n, m, is)
			}
		}
	}
}

func TestFramesComeBackFromTheirBytes(t *testing.T) {
	for _, x := range frames() {
		b, e := mbap.Bytes(x)
		if !bytes.Equal(b, laid(x)) || e != api.OK {
			t.Errorf("%x: %x, %v", x, b, e)
		}
		for _, behind := range behinds() {
			back, n, e := mbap.Read(slices.Concat(b, behind))
			if !alike(back, x) || n != len(b) || e != api.OK || !mbap.Same(back, x) {
				t.Errorf("%x, %d bytes behind: %x, %d, %v", x, len(behind), back, n, e)
			}
		}
	}
}

// All frames of the least length there are, but for the Tid.
func TestShortestFramesComeBack(t *testing.T) {
	for n := range 1 << 16 {
		x := mbap.Frame{Tid: uint16(n) ^ 0x5a5a, Unit: byte(n >> 8), Pdu: []byte{byte(n)}}
		b, e := mbap.Bytes(x)
		if !bytes.Equal(b, laid(x)) || e != api.OK {
			t.Fatalf("%x: %x, %v", x, b, e)
		}
		reads(t, b, x, 8)
	}
}

func TestFramesThatAreCutOffAreTooShort(t *testing.T) {
	for _, x := range frames() {
		b, _ := mbap.Bytes(x)
		for n := range b {
			refuses(t, b[:n], api.ErrShort)
			refuses(t, bytes.Clone(b[:n]), api.ErrShort)
		}
	}
}

// What is read is, as bytes, what it was read from.
func TestBytesComeBackFromTheirFrames(t *testing.T) {
	for rest := 2; rest <= 254; rest++ {
		for _, tid := range []byte{0, 1, 128, 255} {
			b := append([]byte{tid, ^tid, 0, 0, 0, byte(rest)}, long(rest)...)
			for _, behind := range behinds() {
				x, n, e := mbap.Read(slices.Concat(b, behind))
				if n != len(b) || e != api.OK {
					t.Fatalf("%x: %d, %v", b, n, e)
				}
				if back, e := mbap.Bytes(x); !bytes.Equal(back, b) || e != api.OK {
					t.Fatalf("%x: %x, %v", b, back, e)
				}
			}
		}
	}
}

// Frames that stand one behind the other are read one by one.
func TestFramesOneBehindTheOther(t *testing.T) {
	var all []byte
	for _, x := range frames() {
		all = append(all, laid(x)...)
	}
	for i, x := range frames() {
		got, n, e := mbap.Read(all)
		if !alike(got, x) || n != 7+len(x.Pdu) || e != api.OK {
			t.Fatalf("%d: %x, %d, %v", i, got, n, e)
		}
		all = all[n:]
	}
	refuses(t, all, api.ErrShort)
}

// roomy are bytes, with three more behind them that no call may change.
func roomy(b []byte) []byte { return append(bytes.Clone(b), 0x55, 0x55, 0x55) }

// flood writes over all of an answer, and behind it.
func flood(b []byte) {
	b = b[:cap(b)]
	for i := range b {
		b[i] ^= 0xff
	}
}

func TestWhatIsHandedInStays(t *testing.T) {
	most := laid(mbap.Frame{Tid: 0xffff, Unit: 255, Pdu: long(api.MostPdu)})
	for _, list := range [][]byte{exBytes, pubBytes, most, long(300), {1, 2, 3, 4, 5, 6, 7, 8}} {
		b := roomy(list)
		kept := bytes.Clone(b)
		for n := range len(list) + 1 {
			mbap.Read(b[:n])
			mbap.Bytes(mbap.Frame{Tid: 7, Unit: 7, Pdu: b[:n]})
			mbap.Same(mbap.Frame{Tid: 7, Unit: 7, Pdu: b[:n]}, mbap.Frame{Tid: 7, Unit: 7, Pdu: b})
			if !bytes.Equal(b, kept) {
				t.Fatalf("%d bytes: %x", n, b)
			}
		}
	}
}

func TestAnswersShareNoMemory(t *testing.T) {
	for _, x := range frames() {
		want := laid(x)
		pdu, b := roomy(x.Pdu), roomy(want)
		keptPdu, keptB := bytes.Clone(pdu), bytes.Clone(b)
		in := mbap.Frame{Tid: x.Tid, Unit: x.Unit, Pdu: pdu[:len(x.Pdu)]}

		first, _ := mbap.Bytes(in)
		second, _ := mbap.Bytes(in)
		read, _, _ := mbap.Read(b)
		again, _, _ := mbap.Read(b)
		flood(first)
		flood(read.Pdu)
		if !bytes.Equal(pdu, keptPdu) || !bytes.Equal(b, keptB) {
			t.Fatalf("handed in: %x, %x", pdu, b)
		}
		flood(pdu)
		flood(b)
		if !bytes.Equal(second, want) || !alike(again, x) {
			t.Fatalf("told: %x, %x", second, again)
		}
	}
}

// What a call answers hangs on nothing that was told ahead of it.
func TestCallsHangOnNoOther(t *testing.T) {
	for _, ahead := range behinds() {
		mbap.Read(ahead)
		mbap.Bytes(mbap.Frame{Tid: 0xffff, Unit: 255, Pdu: ahead})
		if b, e := mbap.Bytes(example); !bytes.Equal(b, exBytes) || e != api.OK {
			t.Errorf("%x: %x, %v", ahead, b, e)
		}
		reads(t, exBytes, example, 8)
		refuses(t, exBytes[:7], api.ErrShort)
	}
}

func TestCallsFromSeveralGoroutines(t *testing.T) {
	var all sync.WaitGroup
	for i := range 8 {
		all.Go(func() {
			for j := range 200 {
				x := mbap.Frame{Tid: uint16(i*1000 + j), Unit: byte(i), Pdu: long(1 + j)}
				b, e := mbap.Bytes(x)
				if !bytes.Equal(b, laid(x)) || e != api.OK {
					t.Errorf("%x: %x, %v", x, b, e)
				}
				if back, n, e := mbap.Read(b); !mbap.Same(back, x) || n != len(b) || e != api.OK {
					t.Errorf("%x: %x, %d, %v", x, back, n, e)
				}
				refuses(t, b[:len(b)-1], api.ErrShort)
			}
		})
	}
	all.Wait()
}
