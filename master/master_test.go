package master_test

import (
	"bytes"
	"math"
	"testing"

	"triune/answer"
	"triune/api"
	"triune/ask"
	"triune/master"
)

func TestKindsHaveTheirNumbers(t *testing.T) {
	if l := [...]int{master.None, master.Done, master.Silent, master.Garbled}; l != [...]int{0, 1, 2, 3} {
		t.Error(l)
	}
}

// may holds Right and New of a configuration against whether it may be.
func may(t *testing.T, c master.Config, want bool) {
	t.Helper()
	if is := master.Right(c); is != want {
		t.Errorf("%v: %v", c, is)
	}
	m, e := master.New(c)
	if !want && (m != nil || e != api.ErrArg) {
		t.Errorf("%v: %v, %v", c, m, e)
	}
	if want && (m == nil || e != api.OK || m.Busy()) {
		t.Errorf("%v: %v, %v", c, m, e)
	}
}

func TestEachUnit(t *testing.T) {
	for n := range 256 {
		for _, c := range []master.Config{{Gap: 1, Wait: 1, Tries: 1}, {Gap: 20, Wait: 1000, Tries: 5}} {
			c.Unit = byte(n)
			may(t, c, n >= 1 && n <= 247)
		}
	}
}

// Each of the other fields at its limits, far from them, and where its lower bits alone would be right.
func TestEachField(t *testing.T) {
	l := []int{math.MinInt, math.MinInt + 1, -1001, -256, -1, 255, 256, 257, 1 << 16, 1<<16 + 1, 1<<31 - 1, math.MaxInt - 1, math.MaxInt}
	for n := range 1100 {
		l = append(l, n, -n)
	}
	wide := int64(1) << 32
	l = append(l, int(wide), int(wide+1), int(wide+2), int(-wide+1))
	for _, n := range l {
		may(t, set(n, 10, 3), n >= 1 && n <= 20)
		may(t, set(n, 1, 1), n >= 1 && n <= 20)
		may(t, set(2, n, 3), n >= 1 && n <= 1000)
		may(t, set(20, n, 5), n >= 1 && n <= 1000)
		may(t, set(2, 10, n), n >= 1 && n <= 5)
		may(t, set(20, 1000, n), n >= 1 && n <= 5)
	}
}

// However many of the fields are wrong, they may not be.
func TestSeveralFields(t *testing.T) {
	for _, unit := range []byte{0, 1, 247, 248, 255} {
		for _, gap := range []int{-1, 0, 1, 20, 21} {
			for _, wait := range []int{-1, 0, 1, api.MostTicks, api.MostTicks + 1} {
				for _, tries := range []int{-1, 0, 1, 5, 6} {
					is := unit >= 1 && unit <= 247 && gap >= 1 && gap <= 20 && wait >= 1 && wait <= 1000 && tries >= 1 && tries <= 5
					may(t, master.Config{Unit: unit, Gap: gap, Wait: wait, Tries: tries}, is)
				}
			}
		}
	}
	may(t, master.Config{}, false)
}

// Gap of a new one is over already, so that it sends by the first Tick.
func TestNewHasASilentBus(t *testing.T) {
	for gap := 1; gap <= 20; gap++ {
		m := made(t, set(gap, 1000, 1))
		start(t, m, plain)
		tick(t, m, plainSent, none)
	}
}

func TestBusyTillTheOutcome(t *testing.T) {
	reply := replyOf(5, samples()[0])
	for name, c := range map[string]struct {
		came []byte
		x    master.Outcome
	}{
		"done":    {reply, done(samples()[0].x)},
		"garbled": {reply[1:], failed(master.Garbled)},
		"silent":  {nil, failed(master.Silent)},
	} {
		m := made(t, set(2, 2, 1))
		for range 3 {
			rest(t, m, 1)
			start(t, m, plain)
			tick(t, m, plainSent, none)
			m.Take(c.came)
			if !m.Busy() {
				t.Errorf("%s: idle", name)
			}
			rest(t, m, 1)
			tick(t, m, nothing, c.x)
			if m.Busy() {
				t.Errorf("%s: busy", name)
			}
		}
	}
}

// What comes of a request is told once, and the ticks behind tell nothing, whatever comes.
func TestIdleTellsNothing(t *testing.T) {
	m := made(t, set(2, 4, 3))
	for range 50 {
		m.Take(plainSent)
		m.Take(replyOf(5, samples()[0]))
		rest(t, m, 5)
		noise(t, m, 5)
	}
}

// twins are two masters that are told the same till now.
func twins(t *testing.T, c master.Config, tell func(m *master.Master)) (a, b *master.Master) {
	t.Helper()
	a, b = made(t, c), made(t, c)
	tell(a)
	tell(b)
	return a, b
}

// same holds what two masters tell against each other, from now on to the end of the request that they have, and of the next one.
func same(t *testing.T, a, b *master.Master) {
	t.Helper()
	for i := range 80 {
		if i == 40 {
			if x, y := a.Start(plain), b.Start(plain); x != y {
				t.Errorf("%v, %v", x, y)
			}
		}
		sentA, xA := a.Tick()
		sentB, xB := b.Tick()
		if !bytes.Equal(sentA, sentB) || !alike(xA, xB) || a.Busy() != b.Busy() {
			t.Errorf("%d: %x, %v and %x, %v", i, sentA, xA, sentB, xB)
		}
	}
}

// states are ways to bring a new master, of set(2, 6, 2), into each of its states: whether it is busy there.
func states() []struct {
	name string
	busy bool
	tell func(m *master.Master)
} {
	other := ask.Ask{Code: 16, Addr: 7, Words: []uint16{8, 9}}
	ticks := func(m *master.Master, n int) {
		for range n {
			m.Tick()
		}
	}
	return []struct {
		name string
		busy bool
		tell func(m *master.Master)
	}{
		{"new", false, func(m *master.Master) {}},
		{"idle, and the bus is busy", false, func(m *master.Master) { ticks(m, 3); m.Take([]byte{1}) }},
		{"wants to send", true, func(m *master.Master) { m.Start(other) }},
		{"wants to send for 2 ticks", true, func(m *master.Master) {
			m.Start(other)
			for range 2 {
				m.Take([]byte{1})
				m.Tick()
			}
		}},
		{"waits", true, func(m *master.Master) { m.Start(other); m.Tick() }},
		{"waits for 3 ticks", true, func(m *master.Master) { m.Start(other); ticks(m, 4) }},
		{"waits, and bytes came", true, func(m *master.Master) { m.Start(other); ticks(m, 2); m.Take([]byte{5, 16}); m.Tick() }},
		{"wants to send once more", true, func(m *master.Master) { m.Start(other); ticks(m, 7) }},
		{"waits once more", true, func(m *master.Master) { m.Start(other); ticks(m, 9) }},
		{"done", false, func(m *master.Master) {
			m.Start(other)
			m.Tick()
			m.Take(replyOf(5, pair{other, answer.Answer{}}))
			ticks(m, 2)
		}},
		{"silent", false, func(m *master.Master) { m.Start(other); ticks(m, 14) }},
	}
}

func TestStatesAreAsTold(t *testing.T) {
	for _, s := range states() {
		m := made(t, set(2, 6, 2))
		s.tell(m)
		if m.Busy() != s.busy {
			t.Errorf("%s: %v", s.name, m.Busy())
		}
	}
}

func TestStartOfWhatMayNotBe(t *testing.T) {
	for _, s := range states() {
		for i, a := range wrongs() {
			m, twin := twins(t, set(2, 6, 2), s.tell)
			want := api.ErrForm
			if s.busy {
				want = api.ErrState
			}
			if e := m.Start(a); e != want || m.Busy() != s.busy {
				t.Errorf("%s: %d: %v, want %v; %v", s.name, i, e, want, m.Busy())
			}
			same(t, m, twin)
		}
	}
}

func TestStartOfWhatMayBe(t *testing.T) {
	for _, s := range states() {
		for _, p := range samples() {
			m, twin := twins(t, set(2, 6, 2), s.tell)
			e := m.Start(p.a)
			if !m.Busy() {
				t.Errorf("%s: idle", s.name)
			}
			if !s.busy && e != api.OK || s.busy && e != api.ErrState {
				t.Errorf("%s: %v: %v", s.name, p.a, e)
			}
			if s.busy {
				same(t, m, twin)
			}
		}
	}
}

// One that was refused leaves room for one that may be.
func TestStartBehindOneThatMayNotBe(t *testing.T) {
	for _, a := range wrongs() {
		m := made(t, set(2, 6, 2))
		if e := m.Start(a); e != api.ErrForm {
			t.Errorf("%v: %v", a, e)
		}
		rest(t, m, 3)
		start(t, m, plain)
		tick(t, m, plainSent, none)
	}
}

// How often one has tried, and for how long, says nothing of the next one.
func TestStartAnew(t *testing.T) {
	m := made(t, set(2, 6, 2))
	for range 4 {
		start(t, m, plain)
		for try := range 2 {
			noise(t, m, 5)
			m.Take([]byte{1})
			tick(t, m, plainSent, none)
			rest(t, m, 5)
			if try == 0 {
				rest(t, m, 1)
			}
		}
		tick(t, m, nothing, failed(master.Silent))
	}
}

func TestNilAndEmptyAreTheSame(t *testing.T) {
	m := made(t, set(2, 6, 2))
	start(t, m, ask.Ask{Code: 3, Addr: 107, Count: 3, Words: []uint16{}, Bits: []bool{}})
	tick(t, m, plainSent, none)
}
