package master_test

import (
	"bytes"
	"sync"
	"testing"

	"triune/answer"
	"triune/api"
	"triune/ask"
	"triune/master"
	"triune/rtu"
)

// model is what the document asks for, by another way than the program's: it keeps at which tick something was, and not for how many ticks it is so.
type model struct {
	c           master.Config
	now         int // how many ticks there were
	noisy       int // by which one the bus was not silent last
	since       int // by which one it came to want to send, or to wait
	busy, waits bool
	tried       int
	a           ask.Ask
	came        []byte
}

// modelOf is that of a new master.
func modelOf(c master.Config) *model { return &model{c: c, noisy: -c.Gap} }

func (m *model) start(a ask.Ask) api.Errno {
	switch {
	case m.busy:
		return api.ErrState
	case !ask.Right(a):
		return api.ErrForm
	}
	m.busy, m.waits, m.since, m.tried, m.a = true, false, m.now, 0, a
	return api.OK
}

func (m *model) take(b []byte) {
	if len(b) > 0 {
		m.noisy = m.now
		m.came = append(m.came, b...)
	}
}

func (m *model) tick() ([]byte, master.Outcome) {
	m.now++
	quiet, spent := m.now-m.noisy >= m.c.Gap, m.now-m.since
	if !m.busy {
		return nil, none
	}
	if !m.waits {
		if !quiet && spent < m.c.Wait {
			return nil, none
		}
		m.waits, m.since, m.noisy, m.came = true, m.now, m.now, nil
		m.tried++
		return sentOf(m.c.Unit, m.a), none
	}
	x := m.heard(quiet, spent)
	if x.Kind == master.None {
		return nil, none
	}
	if x.Kind != master.Done && m.tried < m.c.Tries {
		m.waits, m.since = false, m.now
		return nil, none
	}
	m.busy, m.waits = false, false
	return nil, x
}

// heard is what comes of a try.
func (m *model) heard(quiet bool, spent int) master.Outcome {
	if len(m.came) == 0 {
		if spent == m.c.Wait {
			return failed(master.Silent)
		}
		return none
	}
	if quiet {
		if x, e := rtu.Read(m.came); e == api.OK && x.Unit == m.c.Unit {
			if told, e := answer.Read(m.a, x.Pdu); e == api.OK {
				return done(told)
			}
		}
		return failed(master.Garbled)
	}
	if spent == 2*m.c.Wait {
		return failed(master.Garbled)
	}
	return none
}

// watch holds a master against its model, and against the stage's theorem.
type watch struct {
	t     *testing.T
	m     *master.Master
	by    *model
	a     ask.Ask
	ticks int      // how many there were from Start on
	sent  [][]byte // what was sent of that request
	kinds [4]int   // how often there was an outcome of each kind
	tried [6]int   // how often one came of so many tries
	fails int      // how often Start had an error
}

func watchOf(t *testing.T, c master.Config) *watch {
	return &watch{t: t, m: made(t, c), by: modelOf(c)}
}

func (w *watch) start(a ask.Ask) {
	w.t.Helper()
	want := w.by.start(a)
	if e := w.m.Start(a); e != want {
		w.t.Fatalf("%v: %v: %v, want %v", w.by.c, a, e, want)
	}
	if want == api.OK {
		w.a, w.ticks, w.sent = a, 0, nil
	} else {
		w.fails++
	}
}

func (w *watch) take(b []byte) {
	w.by.take(b)
	w.m.Take(b)
}

func (w *watch) tick() {
	w.t.Helper()
	was := w.m.Busy()
	wantSent, want := w.by.tick()
	sent, x := w.m.Tick()
	if !bytes.Equal(sent, wantSent) || !alike(x, want) || w.m.Busy() != w.by.busy {
		w.t.Fatalf("%v: %v: %d ticks: %x, %v, want %x, %v; busy: %v, want %v", w.by.c, w.a, w.ticks, sent, x, wantSent, want, w.m.Busy(), w.by.busy)
	}
	w.theorem(was, sent, x)
}

// theorem holds what is told against what the document says of all that is told of a request; it asks the model nothing.
func (w *watch) theorem(was bool, sent []byte, x master.Outcome) {
	w.t.Helper()
	c := w.by.c
	if len(sent) > 0 {
		w.sent = append(w.sent, sent)
	}
	w.ticks++
	told := x.Kind != master.None
	switch {
	case !was && (told || len(sent) > 0):
		w.t.Fatalf("%v: an idle one tells %x, %v", c, sent, x)
	case was && told == w.m.Busy():
		w.t.Fatalf("%v: %v, and busy: %v", c, x, w.m.Busy())
	case was && !told && w.ticks >= 3*c.Wait*c.Tries:
		w.t.Fatalf("%v: no outcome by %d ticks", c, w.ticks)
	case len(w.sent) > c.Tries:
		w.t.Fatalf("%v: %d were sent", c, len(w.sent))
	case len(sent) > 0 && (!bytes.Equal(sent, w.sent[0]) || told):
		w.t.Fatalf("%v: %x, %x, %v", c, sent, w.sent[0], x)
	case x.Kind == master.Done && !answer.Right(w.a, x.Answer):
		w.t.Fatalf("%v: %v: %v", c, w.a, x)
	case x.Kind != master.Done && !alike(x, failed(x.Kind)):
		w.t.Fatalf("%v: %v: %v", c, w.a, x)
	case told && len(w.sent) == 0:
		w.t.Fatalf("%v: %v, but nothing was sent", c, x)
	}
	if told {
		w.kinds[x.Kind]++
		w.tried[len(w.sent)]++
	}
}

// All ways in which up to some pieces may come, for all little configurations.
func TestAllShortStories(t *testing.T) {
	p := samples()[1]
	b := replyOf(5, p)
	pieces := [][]byte{nil, b, b[:3], b[3:]}
	const ticks = 7
	stories := 1
	for range ticks {
		stories *= len(pieces)
	}
	var kinds [4]int
	for n := range 12 {
		c := set(1+n%3, 1+n/3%2, 1+n/6)
		for story := range stories {
			w := watchOf(t, c)
			for rest := story; w.by.now < ticks; rest /= len(pieces) {
				if !w.by.busy {
					w.start(p.a)
				}
				w.take(pieces[rest%len(pieces)])
				w.tick()
			}
			for i := range kinds {
				kinds[i] += w.kinds[i]
			}
		}
	}
	for kind := master.Done; kind <= master.Garbled; kind++ {
		if kinds[kind] < 1000 {
			t.Errorf("%d: %d", kind, kinds[kind])
		}
	}
}

// speech are bytes that may come of a request, which is one of the list: right, nearly so, and not at all.
func speech(next func(int) int, unit byte, a ask.Ask, l []pair) []byte {
	p := l[next(len(l))]
	if next(3) > 0 {
		for !ask.Same(p.a, a) {
			p = l[next(len(l))]
		}
	}
	b := replyOf(unit, p)
	switch next(12) {
	case 0:
		b[next(len(b))] ^= 1 << next(8)
	case 1:
		b = b[:next(len(b)+1)]
	case 2:
		b = append(b, long(1+next(60))...)
	case 3:
		b = replyOf(byte(next(256)), p)
	case 4:
		b = long(next(400))
	}
	return b
}

// story tells a master what may happen: bytes at any time, whole or in pieces, requests that may be or not, and ticks.
func story(w *watch, seed uint32, ticks int) {
	w.t.Helper()
	next := numbers(seed)
	right, wrong := samples(), wrongs()
	var coming []byte
	loud := 1 + next(8)
	for range ticks {
		if next(4) == 0 {
			w.start(right[next(len(right))].a)
		}
		if next(20) == 0 {
			w.start(wrong[next(len(wrong))])
		}
		if len(coming) == 0 && next(loud) == 0 && w.by.busy {
			coming = speech(next, w.by.c.Unit, w.by.a, right)
		}
		for range next(3) {
			n := []int{len(coming), len(coming), 1, next(len(coming) + 1)}[next(4)]
			n = min(n, len(coming))
			w.take(coming[:n])
			coming = coming[n:]
		}
		if next(60) == 0 {
			w.take(long(next(20)))
		}
		w.tick()
	}
}

func TestManyStories(t *testing.T) {
	next := numbers(3)
	var kinds [4]int
	var tried [6]int
	fails := 0
	for n := range 1500 {
		c := master.Config{Unit: byte(1 + next(247)), Gap: 1 + next(4), Wait: 1 + next(12), Tries: 1 + next(5)}
		switch next(10) {
		case 0:
			c.Gap = 1 + next(20)
		case 1:
			c.Wait = 1 + next(api.MostTicks)
		}
		w := watchOf(t, c)
		story(w, uint32(n), 300)
		for i, k := range w.kinds {
			kinds[i] += k
		}
		for i, k := range w.tried {
			tried[i] += k
		}
		fails += w.fails
	}
	for i := 1; i < 4; i++ {
		if kinds[i] < 500 {
			t.Errorf("%v", kinds)
		}
	}
	for i := 1; i < 6; i++ {
		if tried[i] < 100 {
			t.Errorf("%v", tried)
		}
	}
	if fails < 1000 {
		t.Error(fails)
	}
}

// The longest time that a request may take, at each limit, is just what the document allows: never silent, whatever is tried.
func TestTheLongestTime(t *testing.T) {
	for _, gap := range []int{2, 20} {
		for _, wait := range []int{1, 2, 5, api.MostTicks} {
			for tries := 1; tries <= 5; tries++ {
				w := watchOf(t, set(gap, wait, tries))
				w.start(plain)
				for range 3*wait*tries - 1 {
					w.take([]byte{7})
					w.tick()
				}
				if !w.m.Busy() {
					t.Errorf("%d, %d, %d: idle after %d ticks", gap, wait, tries, w.ticks)
				}
				w.take([]byte{7})
				w.tick()
				if w.m.Busy() || w.ticks != 3*wait*tries || len(w.sent) != tries || w.kinds[master.Garbled] != 1 {
					t.Errorf("%d, %d, %d: %v, %d, %d, %v", gap, wait, tries, w.m.Busy(), w.ticks, len(w.sent), w.kinds)
				}
			}
		}
	}
}

// Behind an outcome, of whichever kind, the next request is taken, of whichever code.
func TestRequestsOneBehindTheOther(t *testing.T) {
	w := watchOf(t, set(2, 6, 2))
	for n := range 3 * len(samples()) {
		p := samples()[n%len(samples())]
		w.start(p.a)
		for w.by.busy {
			if w.by.waits && n%3 > 0 {
				w.take([][]byte{replyOf(5, p), {1}}[n%3-1])
				w.tick()
			}
			w.tick()
		}
	}
	if got, each := w.kinds, len(samples()); got != [4]int{0, each, each, each} {
		t.Error(got)
	}
}

// What one is told, another one knows nothing of.
func TestTwoHaveNothingInCommon(t *testing.T) {
	a, b := watchOf(t, set(2, 6, 2)), watchOf(t, set(2, 6, 2))
	idle := made(t, set(2, 6, 2))
	next := numbers(5)
	for n := range 2000 {
		w := []*watch{a, b}[next(2)]
		story(w, uint32(n), 1+next(4))
		if _, x := idle.Tick(); idle.Busy() || !alike(x, none) {
			t.Fatalf("%v", x)
		}
	}
	start(t, idle, plain)
	tick(t, idle, plainSent, none)
}

// Calls may come from several goroutines at a time, of one master each.
func TestSeveralAtATime(t *testing.T) {
	var all sync.WaitGroup
	for n := range 8 {
		w := watchOf(t, set(1+n%4, 5, 3))
		all.Add(1)
		go func() {
			defer all.Done()
			for i := range 20 {
				turns(w, uint32(100*n+i))
			}
		}()
	}
	all.Wait()
}

// turns is a story that may be told beside others: it ends the test by no Fatalf.
func turns(w *watch, seed uint32) {
	next := numbers(seed)
	l := samples()
	for range 200 {
		a := l[next(len(l))].a
		if e, want := w.m.Start(a), w.by.start(a); e != want {
			w.t.Errorf("%v, want %v", e, want)
		}
		if next(3) == 0 {
			b := speech(next, 5, w.by.a, l)
			w.take(b)
		}
		wantSent, want := w.by.tick()
		if sent, x := w.m.Tick(); !bytes.Equal(sent, wantSent) || !alike(x, want) {
			w.t.Errorf("%x, %v, want %x, %v", sent, x, wantSent, want)
			return
		}
	}
}

// Each pattern of few bytes, as all that comes.
func TestAllShortBytes(t *testing.T) {
	m := made(t, set(1, 3, 1))
	for n := range 1 << 16 {
		for _, b := range [][]byte{{byte(n)}, {byte(n >> 8), byte(n)}, {5, 3, byte(n >> 8), byte(n)}} {
			start(t, m, plain)
			m.Tick()
			m.Take(b)
			if sent, x := m.Tick(); len(sent) != 0 || !alike(x, failed(master.Garbled)) {
				t.Fatalf("%x: %x, %v", b, sent, x)
			}
		}
	}
}
