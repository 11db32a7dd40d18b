package master_test

import (
	"bytes"
	"slices"
	"strings"
	"testing"

	"triune/answer"
	"triune/api"
	"triune/ask"
	"triune/master"
	"triune/rtu"
)

// The calls have just the signatures that the chapter lists.
var (
	_ func(master.Config) bool                        = master.Right
	_ func(master.Config) (*master.Master, api.Errno) = master.New
	_ func(*master.Master, ask.Ask) api.Errno         = (*master.Master).Start
	_ func(*master.Master) bool                       = (*master.Master).Busy
	_ func(*master.Master, []byte)                    = (*master.Master).Take
	_ func(*master.Master) ([]byte, master.Outcome)   = (*master.Master).Tick
)

// nothing is what is sent, and none what came of a request, where a Tick tells of neither.
var (
	nothing []byte
	none    master.Outcome
)

// plain is the request of the published rules, and what the unit 5 is sent of it, laid by hand.
var (
	plain     = ask.Ask{Code: 3, Addr: 107, Count: 3}
	plainSent = []byte{5, 3, 0, 0x6b, 0, 3, 0x75, 0x93}
)

// pair is a request, and an answer that may come of it.
type pair struct {
	a ask.Ask
	x answer.Answer
}

// numbers tells numbers below n in no pattern, the same ones of each seed.
func numbers(seed uint32) func(n int) int {
	return func(n int) int {
		seed = seed*1664525 + 1013904223
		return int(seed>>12) % n
	}
}

// long are n bytes in no pattern.
func long(n int) []byte {
	next := numbers(uint32(n))
	b := make([]byte, n)
	for i := range b {
		b[i] = byte(next(256))
	}
	return b
}

// samples are requests of each code, each with an answer, and some with an exception; the 43 at the end has the longest answer that there is.
func samples() []pair {
	bits, words := make([]bool, 1968), make([]uint16, 123)
	for i := range bits {
		bits[i] = i%3 == 1
	}
	for i := range words {
		words[i] = uint16(i * 77)
	}
	return []pair{
		{plain, answer.Answer{Words: []uint16{1, 2, 65535}}},
		{plain, answer.Answer{Exception: 2}},
		{ask.Ask{Code: 1, Addr: 19, Count: 3}, answer.Answer{Bits: []bool{true, false, true}}},
		{ask.Ask{Code: 1, Count: 1968}, answer.Answer{Bits: bits}},
		{ask.Ask{Code: 2, Addr: 65535, Count: 1}, answer.Answer{Bits: []bool{true}}},
		{ask.Ask{Code: 2, Addr: 65535, Count: 1}, answer.Answer{Exception: 255}},
		{ask.Ask{Code: 3, Count: 123}, answer.Answer{Words: words}},
		{ask.Ask{Code: 4, Addr: 9, Count: 1}, answer.Answer{Words: []uint16{0}}},
		{ask.Ask{Code: 5, Addr: 172, Bits: []bool{true}}, answer.Answer{}},
		{ask.Ask{Code: 5, Addr: 172, Bits: []bool{false}}, answer.Answer{Exception: 4}},
		{ask.Ask{Code: 6, Addr: 1, Words: []uint16{3}}, answer.Answer{}},
		{ask.Ask{Code: 15, Addr: 7, Bits: bits}, answer.Answer{}},
		{ask.Ask{Code: 15, Addr: 7, Bits: []bool{true, true}}, answer.Answer{}},
		{ask.Ask{Code: 16, Addr: 7, Words: words}, answer.Answer{}},
		{ask.Ask{Code: 16, Addr: 7, Words: []uint16{8, 9}}, answer.Answer{Exception: 6}},
		{ask.Ask{Code: 22, Addr: 4, And: 0xf2, Or: 0x25}, answer.Answer{}},
		{ask.Ask{Code: 23, Addr: 3, Count: 2, To: 14, Words: []uint16{255, 254}}, answer.Answer{Words: []uint16{7, 8}}},
		{ask.Ask{Code: 43, Count: 1}, answer.Answer{Texts: []string{"triune", "gate", "1"}}},
		{ask.Ask{Code: 43, Count: 4, Addr: 255}, answer.Answer{Texts: []string{strings.Repeat("x", 244)}}},
	}
}

// longest is the pair whose answer's frame has as many bytes as one has at most.
func longest() pair {
	l := samples()
	return l[len(l)-1]
}

// wrongs are requests that may not be.
func wrongs() []ask.Ask {
	return []ask.Ask{
		{},
		{Code: 3},
		{Code: 3, Count: 126},
		{Code: 3, Addr: 65535, Count: 2},
		{Code: 3, Addr: -1, Count: 1},
		{Code: 7, Count: 1},
		{Code: -3, Count: 1},
		{Code: 259, Count: 1},
		{Code: 5},
		{Code: 5, Bits: []bool{true, true}},
		{Code: 6, Words: []uint16{1}, Count: 1},
		{Code: 15, Bits: make([]bool, 1969)},
		{Code: 16, Words: make([]uint16, 124)},
		{Code: 22, And: 1, Words: []uint16{1}},
		{Code: 23, Count: 1},
		{Code: 43, Count: 5},
	}
}

// set is a configuration of the unit 5.
func set(gap, wait, tries int) master.Config {
	return master.Config{Unit: 5, Gap: gap, Wait: wait, Tries: tries}
}

// made is a new master.
func made(t *testing.T, c master.Config) *master.Master {
	t.Helper()
	m, e := master.New(c)
	if m == nil || e != api.OK {
		t.Fatalf("%v: %v", c, e)
	}
	return m
}

// sentOf is what is sent of a request.
func sentOf(unit byte, a ask.Ask) []byte {
	pdu, _ := ask.Bytes(a)
	b, _ := rtu.Bytes(rtu.Frame{Unit: unit, Pdu: pdu})
	return b
}

// replyOf are a unit's bytes of an answer.
func replyOf(unit byte, p pair) []byte {
	pdu, _ := answer.Bytes(p.a, p.x)
	b, _ := rtu.Bytes(rtu.Frame{Unit: unit, Pdu: pdu})
	return b
}

// done is the outcome that is an answer.
func done(x answer.Answer) master.Outcome { return master.Outcome{Kind: master.Done, Answer: x} }

// failed is an outcome of a kind, and nothing else.
func failed(kind int) master.Outcome { return master.Outcome{Kind: kind} }

// alike tells whether two outcomes are the same, without the program's own word for it.
func alike(a, b master.Outcome) bool {
	return a.Kind == b.Kind && a.Answer.Exception == b.Answer.Exception && slices.Equal(a.Answer.Bits, b.Answer.Bits) &&
		slices.Equal(a.Answer.Words, b.Answer.Words) && slices.Equal(a.Answer.Texts, b.Answer.Texts)
}

// tick holds a Tick against what it should tell, and Busy against whether that is an outcome. What would follow hangs on it, so that the test ends where it is another one.
func tick(t *testing.T, m *master.Master, sent []byte, x master.Outcome) {
	t.Helper()
	busy := m.Busy()
	gotSent, got := m.Tick()
	if !bytes.Equal(gotSent, sent) || !alike(got, x) {
		t.Fatalf("%x, %v, want %x, %v", gotSent, got, sent, x)
	}
	if want := busy && x.Kind == master.None; m.Busy() != want {
		t.Fatalf("busy: %v, want %v", m.Busy(), want)
	}
}

// rest holds n Ticks against nothing.
func rest(t *testing.T, m *master.Master, n int) {
	t.Helper()
	for range n {
		tick(t, m, nothing, none)
	}
}

// noise holds n Ticks against nothing, each behind a byte of the bus.
func noise(t *testing.T, m *master.Master, n int) {
	t.Helper()
	for range n {
		m.Take([]byte{0x55})
		tick(t, m, nothing, none)
	}
}

// start starts what may be.
func start(t *testing.T, m *master.Master, a ask.Ask) {
	t.Helper()
	if e := m.Start(a); e != api.OK || !m.Busy() {
		t.Fatalf("%v: %v, %v", a, e, m.Busy())
	}
}

// waiting is a new master that has just sent a request.
func waiting(t *testing.T, c master.Config, a ask.Ask) *master.Master {
	t.Helper()
	m := made(t, c)
	start(t, m, a)
	tick(t, m, sentOf(c.Unit, a), none)
	return m
}
