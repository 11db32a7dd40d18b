package master

import (
	"triune/answer"
	"triune/api"
	"triune/ask"
	"triune/rtu"
)

// state is how a master is.
type state int

const (
	idle state = iota
	wants
	waits
	states // how many there are
)

// act is what a state does as a tick passes: what is sent, and what came of the request.
type act func() ([]byte, Outcome)

// act is what its state does.
func (m *Master) act() act {
	acts := [states]act{idle: m.rest, wants: m.send, waits: m.hear}
	return acts[m.state]
}

// turn puts it into a state, as one that it has just come to: what came in another one is of no use any more.
func (m *Master) turn(s state) { m.state, m.ticks, m.came = s, 0, nil }

// rest is what an idle one does.
func (m *Master) rest() ([]byte, Outcome) { return nil, Outcome{} }

// send sends as soon as the bus is quiet, but a bus that never is doesn't keep it from sending for longer than Wait.
func (m *Master) send() ([]byte, Outcome) {
	m.ticks++
	if !m.quiet() && m.ticks < m.set.Wait {
		return nil, Outcome{}
	}
	m.tried++
	m.silent = 0
	m.turn(waits)
	return m.frame(), Outcome{}
}

// hear waits for an answer: till the bus is quiet behind one, and not for longer than may be.
func (m *Master) hear() ([]byte, Outcome) {
	m.ticks++
	came := len(m.came) > 0
	switch {
	case came && m.quiet():
		return nil, m.heard()
	case came && m.ticks >= 2*m.set.Wait:
		return nil, m.fail(Garbled)
	case !came && m.ticks >= m.set.Wait:
		return nil, m.fail(Silent)
	}
	return nil, Outcome{}
}

// quiet tells whether the bus is silent for long enough.
func (m *Master) quiet() bool { return m.silent >= m.set.Gap }

// frame is what is sent, made anew for each try, so that nobody who was told it can change it. It has no error: the Pdu of a request that may be is short enough.
func (m *Master) frame() []byte {
	pdu, _ := ask.Bytes(m.asked)
	b, _ := rtu.Bytes(rtu.Frame{Unit: m.set.Unit, Pdu: pdu})
	return b
}

// heard is what comes of all that came.
func (m *Master) heard() Outcome {
	x, is := m.read()
	if !is {
		return m.fail(Garbled)
	}
	m.end()
	return Outcome{Kind: Done, Answer: x}
}

// read is the answer that came, and whether it is one.
func (m *Master) read() (answer.Answer, bool) {
	x, e := rtu.Read(m.came)
	if e != api.OK || x.Unit != m.set.Unit {
		return answer.Answer{}, false
	}
	told, e := answer.Read(m.asked, x.Pdu)
	return told, e == api.OK
}

// fail is what comes of a try that failed: nothing, as long as another one may follow.
func (m *Master) fail(kind int) Outcome {
	if m.tried < m.set.Tries {
		m.turn(wants)
		return Outcome{}
	}
	m.end()
	return Outcome{Kind: kind}
}

// end makes it idle; an idle one keeps nothing of what it asked.
func (m *Master) end() {
	m.asked = ask.Ask{}
	m.turn(idle)
}
