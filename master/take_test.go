package master_test

import (
	"bytes"
	"runtime"
	"testing"

	"triune/api"
	"triune/ask"
	"triune/master"
)

// Of no bytes, Take breaks no silence, and nothing came, in no state.
func TestTakeOfNoBytes(t *testing.T) {
	p := samples()[0]
	for _, no := range [][]byte{nil, {}, make([]byte, 0, 10), plainSent[:0]} {
		m := made(t, set(3, 5, 1))
		m.Take(no)
		start(t, m, p.a)
		m.Take(no)
		tick(t, m, plainSent, none)
		for range 4 {
			m.Take(no)
			rest(t, m, 1)
		}
		m.Take(no)
		tick(t, m, nothing, failed(master.Silent))

		m.Take([]byte{1})
		rest(t, m, 2)
		m.Take(no)
		start(t, m, p.a)
		m.Take(no)
		tick(t, m, plainSent, none)
		m.Take(replyOf(5, p))
		for range 2 {
			m.Take(no)
			rest(t, m, 1)
		}
		m.Take(no)
		tick(t, m, nothing, done(p.x))
	}
}

// A byte in each state, and how long it takes from there to what is told next.
func TestTakeBreaksTheSilenceInEachState(t *testing.T) {
	m := made(t, set(3, 9, 1))
	m.Take([]byte{0}) // idle
	start(t, m, plain)
	rest(t, m, 2)
	m.Take([]byte{0}) // it wants to send
	rest(t, m, 2)
	tick(t, m, plainSent, none)
	rest(t, m, 6)
	m.Take([]byte{0}) // it waits
	rest(t, m, 2)
	tick(t, m, nothing, failed(master.Garbled))
	m.Take([]byte{0})
	rest(t, m, 1)
	start(t, m, plain)
	rest(t, m, 1)
	tick(t, m, plainSent, none)
}

// The longest frame that there is, whole, and in pieces of each size.
func TestTakeOfTheLongestFrame(t *testing.T) {
	p := longest()
	b := replyOf(5, p)
	if len(b) != 256 {
		t.Fatal(len(b))
	}
	for size := 1; size <= len(b); size++ {
		m := waiting(t, set(2, 300, 1), p.a)
		for at := 0; at < len(b); at += size {
			m.Take(b[at:min(at+size, len(b))])
			if at+size < len(b) {
				rest(t, m, 1)
			}
		}
		rest(t, m, 1)
		tick(t, m, nothing, done(p.x))
	}
}

// However many bytes are too many, they are no frame: neither those at the beginning, nor those at the end.
func TestTakeOfTooManyBytes(t *testing.T) {
	little, big := samples()[0], longest()
	sizes := []int{1, 43, 44, 45, 244, 255, 256, 257, 299, 300, 301, 511, 512, 556, 600, 65536, 1 << 20}
	for n := 280; n <= 310; n++ {
		sizes = append(sizes, n)
	}
	for _, p := range []pair{little, big} {
		b := replyOf(5, p)
		for _, n := range sizes {
			for _, all := range [][]byte{append(bytes.Clone(b), long(n)...), append(long(n), b...)} {
				for _, size := range []int{1, 7, 255, 256, 300, 301, len(all)} {
					if size < len(all)/100 {
						continue
					}
					m := waiting(t, set(2, 1000, 1), p.a)
					for at := 0; at < len(all); at += size {
						m.Take(all[at:min(at+size, len(all))])
					}
					rest(t, m, 1)
					tick(t, m, nothing, failed(master.Garbled))
				}
			}
		}
	}
}

// Just 300 bytes, one less, and one more: in one piece, and in two.
func TestTakeOfAbout300Bytes(t *testing.T) {
	p := longest()
	for n := 297; n <= 303; n++ {
		all := append(replyOf(5, p), make([]byte, n-256)...)
		for at := range len(all) {
			m := waiting(t, set(2, 1000, 2), p.a)
			m.Take(all[:at])
			m.Take(all[at:])
			rest(t, m, 2)
			tick(t, m, sentOf(5, p.a), none)
			m.Take(replyOf(5, p)) // of those bytes nothing is left
			rest(t, m, 1)
			tick(t, m, nothing, done(p.x))
		}
	}
}

// heap is how many bytes are kept in all.
func heap() int64 {
	runtime.GC()
	runtime.GC()
	var s runtime.MemStats
	runtime.ReadMemStats(&s)
	return int64(s.HeapAlloc)
}

// However many bytes come, few are kept, in each state; and none of the memory that a request or a Take handed in.
func TestFewBytesAreKept(t *testing.T) {
	c := set(2, api.MostTicks, 1)
	m := made(t, c)
	flood := func() {
		for range 64 {
			m.Take(make([]byte, 1<<20))
		}
		for range 1000 {
			m.Take(make([]byte, 301))
		}
	}
	before := heap()
	flood()
	idle := heap()
	start(t, m, ask.Ask{Code: 16, Words: make([]uint16, 1<<24)[:1]})
	flood()
	wants := heap()
	m.Tick()
	tick(t, m, sentOf(5, ask.Ask{Code: 16, Words: make([]uint16, 1)}), none)
	flood()
	waits := heap()
	for name, n := range map[string]int64{"idle": idle, "wants to send": wants, "waits": waits} {
		if n-before > 1<<22 {
			t.Errorf("%s: %d bytes more are kept", name, n-before)
		}
	}
	rest(t, m, 1)
	tick(t, m, nothing, failed(master.Garbled))
}

// What is handed in stays as it is.
func TestWhatIsHandedInStaysAsItIs(t *testing.T) {
	for _, p := range samples() {
		m := made(t, set(2, 5, 2))
		a := p.a
		a.Words, a.Bits = append(append([]uint16{}, a.Words...), 7, 7)[:len(a.Words)], append(append([]bool{}, a.Bits...), true, true)[:len(a.Bits)]
		whole := append(replyOf(5, p), 1, 2, 3)
		b := whole[: len(whole)-3 : len(whole)]
		kept := bytes.Clone(whole)
		start(t, m, a)
		for _, piece := range [][]byte{b[:1], b[1:3], b} {
			tick(t, m, sentOf(5, p.a), none)
			m.Take(piece)
			m.Take(b)
			rest(t, m, 1)
			if _, x := m.Tick(); x.Kind != master.None {
				break
			}
		}
		if !ask.Same(a, p.a) || !bytes.Equal(whole, kept) {
			t.Errorf("%v, %x", a, whole)
		}
		for _, n := range a.Words[len(a.Words):cap(a.Words)][:2] {
			if n != 7 {
				t.Error(n)
			}
		}
		for _, bit := range a.Bits[len(a.Bits):cap(a.Bits)][:2] {
			if !bit {
				t.Error(bit)
			}
		}
	}
}

// What is handed in may be changed behind the call, and nothing hangs on it any more.
func TestWhatIsHandedInIsNotKept(t *testing.T) {
	for _, p := range samples() {
		m := made(t, set(2, 5, 2))
		a := p.a
		a.Words, a.Bits = append([]uint16{}, a.Words...), append([]bool{}, a.Bits...)
		start(t, m, a)
		for i := range a.Words {
			a.Words[i] ^= 0xffff
		}
		for i := range a.Bits {
			a.Bits[i] = !a.Bits[i]
		}
		tick(t, m, sentOf(5, p.a), none)
		rest(t, m, 5)
		tick(t, m, sentOf(5, p.a), none)
		b := replyOf(5, p)
		buffer := make([]byte, len(b))
		for _, half := range [][]byte{b[:len(b)/2], b[len(b)/2:]} {
			n := copy(buffer, half)
			m.Take(buffer[:n])
			clear(buffer)
		}
		rest(t, m, 1)
		clear(buffer)
		tick(t, m, nothing, done(p.x))
	}
}

// What is told is the caller's own: who changes it changes nothing that is told later, and nothing that was handed in.
func TestWhatIsToldIsTheCallersOwn(t *testing.T) {
	for _, p := range samples() {
		m := made(t, set(2, 5, 3))
		b := replyOf(5, p)
		kept := bytes.Clone(b)
		for range 3 {
			start(t, m, p.a)
			for range 2 {
				sent, _ := m.Tick()
				if !bytes.Equal(sent, sentOf(5, p.a)) {
					t.Errorf("%x", sent)
				}
				clear(sent[:cap(sent)])
				rest(t, m, 5)
			}
			sent, _ := m.Tick()
			m.Take(b)
			clear(sent[:cap(sent)])
			rest(t, m, 1)
			_, x := m.Tick()
			if !alike(x, done(p.x)) {
				t.Errorf("%v", x)
			}
			clear(x.Answer.Words[:cap(x.Answer.Words)])
			clear(x.Answer.Bits[:cap(x.Answer.Bits)])
			clear(x.Answer.Texts[:cap(x.Answer.Texts)])
			if !bytes.Equal(b, kept) || !known(p.a) {
				t.Errorf("%x, %v", b, p.a)
			}
			rest(t, m, 3)
		}
	}
}

// known tells whether a request is one of the samples, as these are made anew.
func known(a ask.Ask) bool {
	for _, p := range samples() {
		if ask.Same(a, p.a) {
			return true
		}
	}
	return false
}
