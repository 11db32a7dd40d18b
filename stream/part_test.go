package stream

import "testing"

// least is a frame's bytes.
func least() []byte { return []byte{0, 1, 0, 0, 0, 2, 2, 3} }

// What is kept is no more than what is held, however much came at once.
func TestNoMoreIsKeptThanIsHeld(t *testing.T) {
	for n := range least() {
		var b []byte
		for range 10000 {
			b = append(b, least()...)
		}
		s := New()
		s.Take(append(b, least()[:n]...))
		if len(s.rest) != n || cap(s.rest) > 1000 {
			t.Errorf("%d: %d, %d", n, len(s.rest), cap(s.rest))
		}
		s.Take(append(least()[n:], b...))
		s.Take([]byte{0, 0, 1, 1})
		if cap(s.rest) != 0 {
			t.Errorf("broken: %d", cap(s.rest))
		}
	}
}
