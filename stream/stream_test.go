package stream_test

import (
	"bytes"
	"slices"
	"sync"
	"testing"

	"triune/api"
	"triune/mbap"
	"triune/stream"
)

// The calls have just the signatures that the chapter lists.
var (
	_ func() *stream.Stream                                  = stream.New
	_ func(*stream.Stream, []byte) ([]mbap.Frame, api.Errno) = (*stream.Stream).Take
	_ func(*stream.Stream) int                               = (*stream.Stream).Held
	_ func(*stream.Stream) bool                              = (*stream.Stream).Broken
)

// greatest is how many bytes the greatest frame has.
const greatest = 7 + 253

// Frames that may be: the least, ordinary ones, one whose parts may be taken for a head, and the greatest.
var (
	little  = mbap.Frame{Tid: 1, Unit: 2, Pdu: []byte{3}}
	request = mbap.Frame{Tid: 0x1234, Unit: 17, Pdu: []byte{3, 0, 107, 0, 3}}
	headed  = mbap.Frame{Tid: 0, Unit: 0, Pdu: []byte{0, 0, 0, 0, 2, 0, 0, 0, 0}}
	middle  = mbap.Frame{Tid: 0xff00, Unit: 255, Pdu: long(40)}
	great   = mbap.Frame{Tid: 0xfffe, Unit: 9, Pdu: long(253)}
)

// kinds are one of each.
func kinds() []mbap.Frame { return []mbap.Frame{little, request, headed, middle, great} }

// long are n bytes in no pattern.
func long(n int) []byte {
	next := numbers(1)
	b := make([]byte, n)
	for i := range b {
		b[i] = byte(next(256))
	}
	return b
}

// numbers tells numbers below n in no pattern, the same ones of each seed.
func numbers(seed uint32) func(n int) int {
	return func(n int) int {
		seed = seed*1664525 + 1013904223
		return int(seed>>12) % n
	}
}

// laid are the bytes of frames, one behind the other, without the program's own words.
func laid(l ...mbap.Frame) []byte {
	var b []byte
	for _, x := range l {
		rest := 1 + len(x.Pdu)
		b = append(b, byte(x.Tid/256), byte(x.Tid%256), 0, 0, byte(rest/256), byte(rest%256), x.Unit)
		b = append(b, x.Pdu...)
	}
	return b
}

// bads are bytes that begin no frame, each with the first of its bytes at which that shows.
func bads() map[string]struct {
	b     []byte
	shows int
} {
	return map[string]struct {
		b     []byte
		shows int
	}{
		"the third":                        {[]byte{0, 1, 1, 0}, 4},
		"the fourth":                       {[]byte{0, 1, 0, 1}, 4},
		"both":                             {[]byte{0, 1, 255, 255, 0, 2, 1, 1}, 4},
		"the fourth, and more behind":      {[]byte{0, 1, 0, 128, 0, 6, 17, 3, 0, 107, 0, 3}, 4},
		"none follow on":                   {[]byte{0, 1, 0, 0, 0, 0}, 6},
		"one follows on":                   {[]byte{0, 1, 0, 0, 0, 1}, 6},
		"one follows on, and is there":     {[]byte{0, 1, 0, 0, 0, 1, 9}, 6},
		"one too many follow on":           {[]byte{0, 1, 0, 0, 0, 255}, 6},
		"one too many, and all are there":  {append([]byte{0, 1, 0, 0, 0, 255}, long(255)...), 6},
		"by the fifth too many follow on":  {[]byte{0, 1, 0, 0, 1, 2, 9, 3}, 6},
		"as many as can be told follow on": {[]byte{255, 255, 0, 0, 255, 255}, 6},
	}
}

// model is what the document asks for of all bytes that came: the frames in order, how many bytes are held, and whether it is broken.
func model(b []byte) ([]mbap.Frame, int, bool) {
	var l []mbap.Frame
	for {
		if len(b) >= 4 && (b[2] != 0 || b[3] != 0) {
			return l, 0, true
		}
		if len(b) < 6 {
			return l, len(b), false
		}
		rest := int(b[4])*256 + int(b[5])
		if rest < 2 || rest > 254 {
			return l, 0, true
		}
		if len(b) < 6+rest {
			return l, len(b), false
		}
		l = append(l, mbap.Frame{Tid: uint16(b[0])*256 + uint16(b[1]), Unit: b[6], Pdu: b[7 : 6+rest]})
		b = b[6+rest:]
	}
}

// alike tells whether two lists of frames are the same, without the program's own word for it.
func alike(a, b []mbap.Frame) bool {
	return slices.EqualFunc(a, b, func(x, y mbap.Frame) bool {
		return x.Tid == y.Tid && x.Unit == y.Unit && string(x.Pdu) == string(y.Pdu)
	})
}

// stands holds against what it should be how a stream is.
func stands(t *testing.T, s *stream.Stream, held int, broken bool) {
	t.Helper()
	if s.Held() != held || s.Broken() != broken {
		t.Errorf("%d are held, %v, want %d, %v", s.Held(), s.Broken(), held, broken)
	}
	if s.Held() >= greatest {
		t.Errorf("%d are held", s.Held())
	}
}

// takes holds Take of bytes against frames and an error, and then how the stream is.
func takes(t *testing.T, s *stream.Stream, b []byte, want []mbap.Frame, e api.Errno, held int) {
	t.Helper()
	if got, gotE := s.Take(b); !alike(got, want) || gotE != e {
		t.Errorf("%d bytes, %x: %x, %v, want %x, %v", len(b), b[:min(len(b), 12)], got, gotE, want, e)
	}
	stands(t, s, held, e == api.ErrForm || e == api.ErrState)
}

// follow holds each Take of pieces, one behind the other, against what is asked for of all bytes till then.
func follow(t *testing.T, pieces ...[]byte) {
	t.Helper()
	s := stream.New()
	var all []byte
	told, was := 0, false
	for _, piece := range pieces {
		all = append(all, piece...)
		l, held, broken := model(all)
		e := api.OK
		switch {
		case was:
			e = api.ErrState
		case broken:
			e = api.ErrForm
		}
		takes(t, s, piece, l[told:], e, held)
		told, was = len(l), broken
	}
}

func TestNewHoldsNothing(t *testing.T) {
	s := stream.New()
	if s == nil {
		t.Fatal("none")
	}
	stands(t, s, 0, false)
	stands(t, s, 0, false)
}

func TestTakeOfNoBytes(t *testing.T) {
	for _, none := range [][]byte{nil, {}, make([]byte, 0, 10), laid(little)[:0]} {
		s := stream.New()
		takes(t, s, none, nil, api.OK, 0)
		takes(t, s, laid(request)[:5], nil, api.OK, 5)
		takes(t, s, none, nil, api.OK, 5)
		takes(t, s, none, nil, api.OK, 5)
		takes(t, s, laid(request)[5:], []mbap.Frame{request}, api.OK, 0)
		takes(t, s, none, nil, api.OK, 0)
		takes(t, s, []byte{0, 0, 0, 9}, nil, api.ErrForm, 0)
		takes(t, s, none, nil, api.ErrState, 0)
	}
}

func TestTakeOfAFrameInOnePiece(t *testing.T) {
	for _, x := range kinds() {
		s := stream.New()
		takes(t, s, laid(x), []mbap.Frame{x}, api.OK, 0)
		takes(t, s, laid(x), []mbap.Frame{x}, api.OK, 0)
		takes(t, s, laid(little), []mbap.Frame{little}, api.OK, 0)
	}
}

// The document's example: none, then the frame.
func TestTakeOfAFrameInTwoPieces(t *testing.T) {
	for _, x := range kinds() {
		b := laid(x)
		s := stream.New()
		for n := range b {
			takes(t, s, b[:n], nil, api.OK, n)
			takes(t, s, b[n:], []mbap.Frame{x}, api.OK, 0)
		}
	}
}

func TestTakeOfSeveralFramesInOnePiece(t *testing.T) {
	s := stream.New()
	for range 3 {
		takes(t, s, laid(kinds()...), kinds(), api.OK, 0)
	}
	takes(t, s, laid(great, great, little, little, little), []mbap.Frame{great, great, little, little, little}, api.OK, 0)

	var l []mbap.Frame
	for i := range 1000 {
		l = append(l, mbap.Frame{Tid: uint16(i * 77), Unit: byte(i), Pdu: long(1 + i%253)})
	}
	takes(t, s, laid(l...), l, api.OK, 0)
}

// A part of the next one is held, and goes on.
func TestTakeOfFramesAndAPartOfTheNext(t *testing.T) {
	for _, x := range kinds() {
		b := laid(x)
		for n := range b {
			s := stream.New()
			takes(t, s, append(laid(little), b[:n]...), []mbap.Frame{little}, api.OK, n)
			takes(t, s, b[n:], []mbap.Frame{x}, api.OK, 0)

			s = stream.New()
			takes(t, s, append(laid(great, little, request), b[:n]...), []mbap.Frame{great, little, request}, api.OK, n)
			takes(t, s, slices.Concat(b[n:], laid(headed), b[:n]), []mbap.Frame{x, headed}, api.OK, n)
			takes(t, s, slices.Concat(b[n:], laid(middle, great)), []mbap.Frame{x, middle, great}, api.OK, 0)
		}
	}
}

// ends holds it that a stream takes nothing any more.
func ends(t *testing.T, s *stream.Stream) {
	t.Helper()
	stands(t, s, 0, true)
	for _, b := range [][]byte{nil, {}, {0}, {0, 0, 0, 9}, laid(little), laid(great), laid(kinds()...), laid(great)[:100], long(1000), laid(little)} {
		takes(t, s, b, nil, api.ErrState, 0)
	}
}

func TestTakeOfBytesThatBeginNoFrame(t *testing.T) {
	for name, bad := range bads() {
		t.Run(name, func(t *testing.T) {
			s := stream.New()
			takes(t, s, bad.b, nil, api.ErrForm, 0)
			ends(t, s)

			s = stream.New()
			takes(t, s, append(laid(little), bad.b...), []mbap.Frame{little}, api.ErrForm, 0)
			ends(t, s)

			s = stream.New()
			takes(t, s, laid(great), []mbap.Frame{great}, api.OK, 0)
			takes(t, s, append(laid(kinds()...), bad.b...), kinds(), api.ErrForm, 0)
			ends(t, s)
		})
	}
}

// Frames behind what is wrong are not told, then or later.
func TestTakeOfFramesBehindWhatIsWrong(t *testing.T) {
	for name, bad := range bads() {
		t.Run(name, func(t *testing.T) {
			s := stream.New()
			takes(t, s, slices.Concat(bad.b, laid(kinds()...)), nil, api.ErrForm, 0)
			ends(t, s)

			s = stream.New()
			takes(t, s, slices.Concat(laid(request, great), bad.b, laid(kinds()...)), []mbap.Frame{request, great}, api.ErrForm, 0)
			ends(t, s)
		})
	}
}

// What is wrong shows with the byte at which it does, not ahead of it, and not later.
func TestTakeOfBytesThatShowLaterToBeginNoFrame(t *testing.T) {
	for name, bad := range bads() {
		t.Run(name, func(t *testing.T) {
			for n := range bad.shows {
				s := stream.New()
				takes(t, s, bad.b[:n], nil, api.OK, n)
				takes(t, s, bad.b[n:], nil, api.ErrForm, 0)
				ends(t, s)

				s = stream.New()
				takes(t, s, append(laid(little, request), bad.b[:n]...), []mbap.Frame{little, request}, api.OK, n)
				takes(t, s, bad.b[n:bad.shows], nil, api.ErrForm, 0)
				ends(t, s)
			}
		})
	}
}

// A frame whose end comes in one piece with what is wrong is told.
func TestTakeOfAFramesEndAheadOfWhatIsWrong(t *testing.T) {
	for name, bad := range bads() {
		t.Run(name, func(t *testing.T) {
			for _, x := range kinds() {
				b := laid(x)
				for n := range b {
					s := stream.New()
					takes(t, s, b[:n], nil, api.OK, n)
					takes(t, s, slices.Concat(b[n:], laid(little), bad.b), []mbap.Frame{x, little}, api.ErrForm, 0)
					takes(t, s, laid(little), nil, api.ErrState, 0)
				}
			}
		})
	}
}

// courses are bytes that may come, in all: frames, frames and a part, frames and what is wrong.
func courses() [][]byte {
	l := [][]byte{
		laid(little),
		laid(kinds()...),
		laid(little, little, request, little, headed, request),
		laid(great, middle, great),
		append(laid(request, headed), laid(great)[:259]...),
		append(laid(request, headed), laid(great)[:6]...),
		append(laid(middle), 1),
		{0, 0, 0, 0, 0},
	}
	for _, bad := range bads() {
		l = append(l, slices.Concat(laid(little, middle), bad.b, laid(request, little)))
	}
	return l
}

func TestByteByByte(t *testing.T) {
	for _, b := range courses() {
		follow(t, slices.Collect(slices.Chunk(b, 1))...)
	}
}

func TestAllAtOnce(t *testing.T) {
	for _, b := range courses() {
		follow(t, b)
	}
}

func TestPartedAtEachPlace(t *testing.T) {
	for _, b := range courses() {
		for n := range len(b) + 1 {
			follow(t, b[:n], b[n:])
			follow(t, b[:n], nil, b[n:], nil)
		}
	}
}

func TestPartedAtEachTwoPlaces(t *testing.T) {
	for _, b := range [][]byte{laid(little, request, little), laid(headed, headed), append(laid(request), 0, 1, 0, 0, 0, 1, 9)} {
		for n := range len(b) + 1 {
			for m := range n + 1 {
				follow(t, b[:m], b[m:n], b[n:])
			}
		}
	}
}

func TestPiecesOfEachLength(t *testing.T) {
	for _, b := range courses() {
		for n := 2; n < len(b); n++ {
			follow(t, slices.Collect(slices.Chunk(b, n))...)
		}
	}
}

// However bytes are parted, the same is told and left as where they come at once.
func TestPartedAnyhow(t *testing.T) {
	next := numbers(3)
	for _, b := range courses() {
		once := stream.New()
		want, _ := once.Take(b)
		for range 200 {
			s := stream.New()
			var got []mbap.Frame
			for rest := b; len(rest) > 0; {
				n := 1 + next(min(len(rest), 1+next(300)))
				l, _ := s.Take(rest[:n])
				got, rest = append(got, l...), rest[n:]
			}
			if !alike(got, want) || s.Held() != once.Held() || s.Broken() != once.Broken() {
				t.Fatalf("%x: %x, %d, %v, want %x, %d, %v", b, got, s.Held(), s.Broken(), want, once.Held(), once.Broken())
			}
			// The same is left: what comes then is told alike.
			end := stream.New()
			end.Take(b)
			wantL, wantE := end.Take(laid(great, great))
			if l, e := s.Take(laid(great, great)); !alike(l, wantL) || e != wantE || s.Held() != end.Held() {
				t.Fatalf("%x, and more: %x, %v, want %x, %v", b, l, e, wantL, wantE)
			}
		}
	}
}

// Of bytes in no pattern, but that most begin as frames do.
func TestManyCourses(t *testing.T) {
	next := numbers(11)
	seen := map[bool]int{}
	for range 3000 {
		var b []byte
		for range next(12) {
			b = append(b, laid(mbap.Frame{Tid: uint16(next(1 << 16)), Unit: byte(next(256)), Pdu: long(1 + next(1+next(253)))})...)
			if next(4) == 0 {
				b[next(len(b))] ^= 1 << next(8)
			}
		}
		b = b[:len(b)-next(1+len(b))/(1+next(9))] // cut off, mostly near the end
		var pieces [][]byte
		for rest := b; len(rest) > 0; {
			n := next(min(len(rest), 400) + 1)
			pieces, rest = append(pieces, rest[:n]), rest[n:]
		}
		follow(t, pieces...)
		_, _, broken := model(b)
		seen[broken]++
	}
	if seen[true] < 100 || seen[false] < 100 {
		t.Errorf("%v", seen)
	}
}

// All but the last byte of the greatest frame are held, and never more.
func TestHeldOfTheGreatestFrame(t *testing.T) {
	b := laid(great)
	s := stream.New()
	for i := range greatest - 1 {
		takes(t, s, b[i:i+1], nil, api.OK, i+1)
	}
	takes(t, s, b[greatest-1:], []mbap.Frame{great}, api.OK, 0)

	takes(t, s, b[:greatest-1], nil, api.OK, greatest-1)
	takes(t, s, append(b[greatest-1:], b[:greatest-1]...), []mbap.Frame{great}, api.OK, greatest-1)
}

func TestTakeOfVeryManyBytes(t *testing.T) {
	var l []mbap.Frame
	for len(l) < 100000 {
		l = append(l, mbap.Frame{Tid: uint16(len(l)), Unit: byte(len(l) >> 8), Pdu: []byte{4, byte(len(l)), 0, 1}})
	}
	b := append(laid(l...), laid(great)[:200]...)
	takes(t, stream.New(), b, l, api.OK, 200)

	s := stream.New()
	var got []mbap.Frame
	for piece := range slices.Chunk(b, 7) {
		some, e := s.Take(piece)
		if e != api.OK || s.Held() >= greatest {
			t.Fatalf("%v, %d", e, s.Held())
		}
		got = append(got, some...)
	}
	if !alike(got, l) {
		t.Errorf("%d frames, want %d", len(got), len(l))
	}
	stands(t, s, 200, false)
}

// roomy are bytes, with three more behind them that no call may change.
func roomy(b []byte) []byte { return append(bytes.Clone(b), 0x55, 0x55, 0x55) }

// flood writes over all bytes, and what is behind them.
func flood(b []byte) {
	b = b[:cap(b)]
	for i := range b {
		b[i] ^= 0xff
	}
}

func TestWhatIsHandedInStays(t *testing.T) {
	for _, all := range courses() {
		for n := range len(all) + 1 {
			s := stream.New()
			for _, part := range [][]byte{all[:n], all[n:]} {
				b := roomy(part)
				s.Take(b[:len(part)])
				if !bytes.Equal(b, roomy(part)) {
					t.Fatalf("%x: %x", part, b)
				}
			}
		}
	}
}

// Bytes that are changed behind a Take change nothing that was told, or is held.
func TestBytesThatAreChanged(t *testing.T) {
	for _, x := range kinds() {
		whole := laid(x)
		for n := range whole {
			s := stream.New()
			b := append(laid(request, great), whole[:n]...)
			first, _ := s.Take(b)
			flood(b)
			stands(t, s, n, false)
			end := append(bytes.Clone(whole[n:]), laid(little)...)
			second, e := s.Take(end)
			flood(end)
			if !alike(first, []mbap.Frame{request, great}) || !alike(second, []mbap.Frame{x, little}) || e != api.OK {
				t.Fatalf("%d of %x: %x, %x, %v", n, whole, first, second, e)
			}
			stands(t, s, 0, false)
		}
	}
}

// Frames that are changed change none that is told beside them, or later, and nothing that is held.
func TestFramesThatAreChanged(t *testing.T) {
	b := append(laid(request, great, little), laid(middle)[:20]...)
	for i := range 3 {
		s := stream.New()
		l, _ := s.Take(b)
		want := []mbap.Frame{request, great, little}
		flood(l[i].Pdu)
		if !alike(slices.Delete(slices.Clone(l), i, i+1), slices.Delete(want, i, i+1)) {
			t.Fatalf("%d: %x", i, l)
		}
		for j := range l {
			flood(l[j].Pdu)
			l[j] = mbap.Frame{}
		}
		stands(t, s, 20, false)
		if !bytes.Equal(b, append(laid(request, great, little), laid(middle)[:20]...)) {
			t.Fatalf("handed in: %x", b)
		}
		next, e := s.Take(append(laid(middle)[20:], laid(request)...))
		if !alike(next, []mbap.Frame{middle, request}) || e != api.OK {
			t.Fatalf("%x, %v", next, e)
		}
	}
}

// A list that is told is the caller's own, to put more behind it, too.
func TestListsThatAreChanged(t *testing.T) {
	s := stream.New()
	first, _ := s.Take(laid(request, little, middle))
	second, _ := s.Take(laid(great, little))
	_ = append(first[:1], great, great, great, great)
	_ = append(second[:cap(second)], great)
	if !alike(second, []mbap.Frame{great, little}) || !alike(first[:1], []mbap.Frame{request}) {
		t.Errorf("%x, %x", first, second)
	}
}

func TestStreamsHaveNothingToDoWithOneAnother(t *testing.T) {
	a, b, c := stream.New(), stream.New(), stream.New()
	takes(t, a, laid(request)[:7], nil, api.OK, 7)
	takes(t, b, laid(great)[:100], nil, api.OK, 100)
	stands(t, a, 7, false)
	takes(t, c, []byte{0, 0, 0, 1}, nil, api.ErrForm, 0)
	stands(t, a, 7, false)
	stands(t, b, 100, false)
	takes(t, a, laid(request)[7:], []mbap.Frame{request}, api.OK, 0)
	stands(t, b, 100, false)
	takes(t, b, laid(great)[100:], []mbap.Frame{great}, api.OK, 0)
	takes(t, c, laid(little), nil, api.ErrState, 0)
	stands(t, stream.New(), 0, false)
	takes(t, stream.New(), laid(little), []mbap.Frame{little}, api.OK, 0)
}

// Pieces of two courses by turns tell what those of each one alone would.
func TestStreamsByTurns(t *testing.T) {
	for i, p := range courses() {
		q := courses()[(i+1)%len(courses())]
		wantP, _, _ := model(p)
		wantQ, _, _ := model(q)
		a, b := stream.New(), stream.New()
		var gotP, gotQ []mbap.Frame
		for n := range max(len(p), len(q)) {
			if n < len(p) {
				l, _ := a.Take(p[n : n+1])
				gotP = append(gotP, l...)
			}
			if n < len(q) {
				l, _ := b.Take(q[n : n+1])
				gotQ = append(gotQ, l...)
			}
		}
		if !alike(gotP, wantP) || !alike(gotQ, wantQ) {
			t.Errorf("%x, %x: %x, %x", p, q, gotP, gotQ)
		}
	}
}

func TestStreamsOfSeveralGoroutines(t *testing.T) {
	shared := laid(kinds()...)
	var all sync.WaitGroup
	for i := range 8 {
		all.Go(func() {
			for n := 1 + i; n < len(shared); n += 8 {
				follow(t, append(slices.Collect(slices.Chunk(shared, n)), shared[:n], []byte{0, 0, 1, 1, 1, 1})...)
			}
		})
	}
	all.Wait()
}
