package master_test

import (
	"bytes"
	"testing"

	"triune/answer"
	"triune/api"
	"triune/ask"
	"triune/master"
	"triune/rtu"
)

// The document's example: sent by the first Tick, Silent by the sixth.
func TestTickOfTheDocument(t *testing.T) {
	m := made(t, set(2, 5, 1))
	start(t, m, plain)
	tick(t, m, plainSent, none)
	rest(t, m, 4)
	tick(t, m, nothing, failed(master.Silent))
	rest(t, m, 10)
}

func TestSentAtOnceWhereTheBusIsSilent(t *testing.T) {
	for gap := 1; gap <= 20; gap++ {
		for silent := gap - 1; silent <= gap+30; silent++ {
			m := made(t, set(gap, 1000, 1))
			m.Take([]byte{1})
			rest(t, m, silent)
			start(t, m, plain)
			tick(t, m, plainSent, none)
		}
	}
}

// A byte breaks the silence in each state alike: ahead of Start, and while it wants to send.
func TestSentBehindGapSilentTicks(t *testing.T) {
	for gap := 1; gap <= 20; gap++ {
		for silent := range gap {
			for noisy := range 3 {
				m := made(t, set(gap, 1000, 1))
				m.Take([]byte{1, 2, 3})
				rest(t, m, silent)
				start(t, m, plain)
				rest(t, m, gap-silent-1)
				if noisy > 0 {
					m.Take(long(noisy))
					rest(t, m, gap-1)
				}
				tick(t, m, plainSent, none)
			}
		}
	}
}

// As it waits for silence for Wait ticks at most, it sends by the last of them.
func TestSentBehindWaitTicksThoughTheBusIsNeverSilent(t *testing.T) {
	for _, gap := range []int{2, 3, 20} {
		for _, wait := range []int{1, 2, 3, 19, 20, 21, api.MostTicks} {
			m := made(t, set(gap, wait, 1))
			start(t, m, plain)
			noise(t, m, wait-1)
			m.Take([]byte{1})
			tick(t, m, plainSent, none)
		}
	}
}

// By each Tick the bus is silent for a tick: where Gap is 1, there is nothing to wait for.
func TestSentAtOnceWhereGapIsOne(t *testing.T) {
	m := made(t, set(1, 30, 1))
	m.Take([]byte{1})
	start(t, m, plain)
	m.Take([]byte{1})
	tick(t, m, plainSent, none)
}

// Where Wait is less than Gap, it sends behind Wait ticks on a silent bus, too.
func TestSentBehindWaitTicksAheadOfGap(t *testing.T) {
	for gap := 2; gap <= 20; gap++ {
		for wait := 1; wait < gap; wait++ {
			m := made(t, set(gap, wait, 1))
			m.Take([]byte{1})
			start(t, m, plain)
			rest(t, m, wait-1)
			tick(t, m, plainSent, none)
		}
	}
}

func TestWhatIsSentIsThatRequestsFrame(t *testing.T) {
	for unit := 1; unit <= 247; unit += 41 {
		for _, p := range samples() {
			waiting(t, master.Config{Unit: byte(unit), Gap: 3, Wait: 7, Tries: 2}, p.a)
		}
	}
	pdu, _ := ask.Bytes(plain)
	if b := append([]byte{5}, pdu...); !bytes.Equal(b, plainSent[:6]) || !bytes.Equal(sentOf(5, plain), plainSent) {
		t.Errorf("%x", b)
	}
}

// Each try sends the same, whoever has changed what was told of the one ahead.
func TestEachTrySendsTheSame(t *testing.T) {
	for tries := 1; tries <= 5; tries++ {
		for _, p := range samples() {
			m := made(t, set(2, 4, tries))
			start(t, m, p.a)
			for range tries {
				b, x := m.Tick()
				if !bytes.Equal(b, sentOf(5, p.a)) || !alike(x, none) {
					t.Errorf("%x, %v", b, x)
				}
				clear(b)
				rest(t, m, 3)
				if b, x := m.Tick(); len(b) != 0 || x.Kind != master.None && x.Kind != master.Silent {
					t.Errorf("%x, %v", b, x)
				}
			}
			if m.Busy() {
				t.Errorf("%d: busy", tries)
			}
		}
	}
}

func TestDoneBehindJustGapSilentTicks(t *testing.T) {
	for gap := 1; gap <= 20; gap++ {
		for _, p := range samples() {
			m := waiting(t, set(gap, 30, 2), p.a)
			rest(t, m, 3)
			m.Take(replyOf(5, p))
			rest(t, m, gap-1)
			tick(t, m, nothing, done(p.x))
			rest(t, m, 3)
		}
	}
}

// The frame of each unit that may be asked, and of no other one.
func TestDoneOfEachUnit(t *testing.T) {
	p := samples()[0]
	for unit := 1; unit <= 247; unit++ {
		c := master.Config{Unit: byte(unit), Gap: 1, Wait: 3, Tries: 1}
		for other := range 256 {
			m := waiting(t, c, p.a)
			m.Take(replyOf(byte(other), p))
			if other == unit {
				tick(t, m, nothing, done(p.x))
			} else {
				tick(t, m, nothing, failed(master.Garbled))
			}
		}
	}
}

// Bytes may come one by one, with as many ticks between them as don't end the frame.
func TestDoneOfPieces(t *testing.T) {
	for gap := 1; gap <= 5; gap++ {
		for _, p := range samples() {
			m := waiting(t, set(gap, 1000, 1), p.a)
			b := replyOf(5, p)
			for i := range b {
				m.Take(b[i : i+1])
				m.Take(nil)
				if i < len(b)-1 {
					rest(t, m, i%gap)
				}
			}
			rest(t, m, gap-1)
			tick(t, m, nothing, done(p.x))
		}
	}
}

// A gap amid a frame ends it, and what comes behind is none of it.
func TestGarbledByAGapAmid(t *testing.T) {
	p := samples()[0]
	b := replyOf(5, p)
	for gap := 1; gap <= 5; gap++ {
		for n := 1; n < len(b); n++ {
			m := waiting(t, set(gap, 30, 1), p.a)
			m.Take(b[:n])
			rest(t, m, gap-1)
			tick(t, m, nothing, failed(master.Garbled))
			m.Take(b[n:])
			rest(t, m, 40)
		}
	}
}

// The bytes that make no answer to the document's request, of the unit 5.
func garbage() map[string][]byte {
	good := replyOf(5, samples()[0])
	turned := bytes.Clone(good)
	turned[4] ^= 1
	of := func(unit byte, pdu ...byte) []byte {
		b, _ := rtu.Bytes(rtu.Frame{Unit: unit, Pdu: pdu})
		return b
	}
	return map[string][]byte{
		"a byte":                       {0},
		"three bytes":                  {5, 3, 6},
		"cut off":                      good[:len(good)-1],
		"begun too late":               good[1:],
		"a byte behind":                append(bytes.Clone(good), 0),
		"a byte ahead":                 append([]byte{0}, good...),
		"a turned bit":                 turned,
		"twice":                        append(bytes.Clone(good), good...),
		"of unit 4":                    replyOf(4, samples()[0]),
		"of unit 0":                    replyOf(0, samples()[0]),
		"of unit 255":                  replyOf(255, samples()[0]),
		"what was sent":                plainSent,
		"another code":                 of(5, 4, 6, 0, 1, 0, 2, 255, 255),
		"another code's exception":     of(5, 0x84, 2),
		"an exception 0":               of(5, 0x83, 0),
		"an exception, and a byte":     of(5, 0x83, 2, 0),
		"an exception of another unit": of(6, 0x83, 2),
		"too few words":                of(5, 3, 4, 0, 1, 0, 2),
		"too many words":               of(5, 3, 8, 0, 1, 0, 2, 0, 3, 0, 4),
		"half of a word":               of(5, 3, 5, 0, 1, 0, 2, 0),
		"another size":                 of(5, 3, 4, 0, 1, 0, 2, 255, 255),
		"the code alone":               of(5, 3),
	}
}

func TestGarbledByWhatIsNoAnswer(t *testing.T) {
	for name, b := range garbage() {
		for _, gap := range []int{1, 2, 20} {
			m := waiting(t, set(gap, 30, 1), plain)
			m.Take(b)
			rest(t, m, gap-1)
			if sent, x := m.Tick(); len(sent) != 0 || !alike(x, failed(master.Garbled)) || m.Busy() {
				t.Errorf("%s: %d: %x, %v", name, gap, sent, x)
			}
		}
	}
}

// Ahead of the last try nothing is told of it; the next one follows, and may be done.
func TestGarbledAheadOfTheLastTry(t *testing.T) {
	for _, b := range garbage() {
		for tries := 1; tries <= 5; tries++ {
			for _, well := range []bool{false, true} {
				m := made(t, set(2, 30, tries))
				start(t, m, plain)
				for range tries - 1 {
					tick(t, m, plainSent, none)
					m.Take(b)
					rest(t, m, 2)
				}
				tick(t, m, plainSent, none)
				last, want := b, failed(master.Garbled)
				if well {
					last, want = replyOf(5, samples()[0]), done(samples()[0].x)
				}
				m.Take(last)
				rest(t, m, 1)
				tick(t, m, nothing, want)
				rest(t, m, 70)
			}
		}
	}
}

// An answer to another request is none, where it may not come of this one.
func TestGarbledByAnswersToOthers(t *testing.T) {
	for _, p := range samples() {
		for _, q := range samples() {
			b := replyOf(5, q)
			m := waiting(t, set(1, 30, 1), p.a)
			m.Take(b)
			pdu, _ := answer.Bytes(q.a, q.x)
			if x, e := answer.Read(p.a, pdu); e == api.OK {
				tick(t, m, nothing, done(x))
			} else {
				tick(t, m, nothing, failed(master.Garbled))
			}
		}
	}
}

// Where bytes come on and on, it fails behind 2 Wait ticks, and not ahead.
func TestGarbledBehindTwiceWait(t *testing.T) {
	for _, gap := range []int{2, 3, 20} {
		for _, wait := range []int{1, 2, 3, 30, api.MostTicks} {
			for _, piece := range [][]byte{{0}, replyOf(5, samples()[0])} {
				m := waiting(t, set(gap, wait, 1), plain)
				for range 2*wait - 1 {
					m.Take(piece)
					tick(t, m, nothing, none)
				}
				m.Take(piece)
				tick(t, m, nothing, failed(master.Garbled))
			}
		}
	}
}

// If the bus is silent by the very tick at which it has waited for 2 Wait, what came counts: here in as many pieces as it takes to fill the time, one a tick.
func TestDoneInPiecesByTheLastTick(t *testing.T) {
	p := samples()[0]
	b := replyOf(5, p)
	for gap := 2; gap <= 20; gap++ {
		for wait := gap; wait <= gap+len(b)-3; wait++ {
			for late := range 2 {
				pieces := wait - gap + 2 + late
				m := waiting(t, set(gap, wait, 1), p.a)
				rest(t, m, wait-1)
				for i := range pieces - 1 {
					m.Take(b[i : i+1])
					rest(t, m, 1)
				}
				m.Take(b[pieces-1:])
				rest(t, m, gap-1-late)
				if late == 0 {
					tick(t, m, nothing, done(p.x))
				} else {
					tick(t, m, nothing, failed(master.Garbled))
				}
			}
		}
	}
}

// The same where Wait is less than Gap, so that all must come at once.
func TestDoneAtOnceByTheLastTick(t *testing.T) {
	p := samples()[0]
	for gap := 2; gap <= 20; gap++ {
		for wait := (gap + 1) / 2; wait < gap; wait++ {
			m := waiting(t, set(gap, wait, 1), p.a)
			rest(t, m, 2*wait-gap)
			m.Take(replyOf(5, p))
			rest(t, m, gap-1)
			tick(t, m, nothing, done(p.x))

			if wait > gap-2 {
				continue // a tick later none would have come for Wait ticks
			}
			m = waiting(t, set(gap, wait, 1), p.a)
			rest(t, m, 2*wait-gap+1)
			m.Take(replyOf(5, p))
			rest(t, m, gap-2)
			tick(t, m, nothing, failed(master.Garbled))
		}
	}
}

func TestSilentBehindJustWaitTicks(t *testing.T) {
	for _, gap := range []int{1, 2, 20} {
		for _, wait := range []int{1, 2, 3, 19, 20, 21, api.MostTicks - 1, api.MostTicks} {
			m := waiting(t, set(gap, wait, 1), plain)
			for range wait - 1 {
				m.Take(nil)
				m.Take([]byte{})
				rest(t, m, 1)
			}
			tick(t, m, nothing, failed(master.Silent))
			rest(t, m, 3)
		}
	}
}

// One byte ahead of that tick, and it isn't silent any more.
func TestNotSilentWhereAByteCame(t *testing.T) {
	for wait := 2; wait <= 30; wait++ {
		m := waiting(t, set(2, wait, 1), plain)
		rest(t, m, wait-1)
		m.Take([]byte{5})
		rest(t, m, 1)
		tick(t, m, nothing, failed(master.Garbled))
	}
}

// A try that failed leaves nothing to the next one: no bytes, and no ticks.
func TestTriesHaveNothingInCommon(t *testing.T) {
	p := samples()[0]
	b := replyOf(5, p)
	m := made(t, set(2, 4, 3))
	start(t, m, p.a)
	tick(t, m, plainSent, none)
	for range 8 { // it fails, since bytes come on and on
		m.Take(b[:1])
		rest(t, m, 1)
	}
	for range 3 { // it wants to send for Wait ticks, and what comes then is of no try
		m.Take(b[:1])
		rest(t, m, 1)
	}
	m.Take(b)
	tick(t, m, plainSent, none)
	rest(t, m, 3)
	m.Take(b[:4])
	rest(t, m, 1)
	m.Take(b[4 : len(b)-1])
	rest(t, m, 2) // it fails, since the last byte is missing
	m.Take(b[len(b)-1:])
	rest(t, m, 1)
	tick(t, m, plainSent, none)
	rest(t, m, 2)
	m.Take(b)
	rest(t, m, 1)
	tick(t, m, nothing, done(p.x))
	rest(t, m, 20)
}

// What comes ahead of its being sent is no answer, be it as right as can be.
func TestAnAnswerAheadIsNone(t *testing.T) {
	p := samples()[0]
	m := made(t, set(2, 4, 1))
	m.Take(replyOf(5, p))
	rest(t, m, 1)
	m.Take(replyOf(5, p))
	start(t, m, p.a)
	m.Take(replyOf(5, p))
	rest(t, m, 1)
	m.Take(replyOf(5, p))
	rest(t, m, 1)
	tick(t, m, plainSent, none)
	rest(t, m, 3)
	tick(t, m, nothing, failed(master.Silent))
}

// Nor is one that comes behind the outcome.
func TestAnAnswerBehindIsNone(t *testing.T) {
	p := samples()[0]
	m := made(t, set(2, 4, 1))
	for range 3 {
		start(t, m, p.a)
		tick(t, m, plainSent, none)
		rest(t, m, 3)
		tick(t, m, nothing, failed(master.Silent))
		m.Take(replyOf(5, p))
		rest(t, m, 2)
		m.Take(replyOf(5, p))
		rest(t, m, 2)
	}
}

// While it sends, the bus is not silent: the next try waits for Gap ticks, or Wait, from there on.
func TestTheNextTryIsSentInItsTime(t *testing.T) {
	for gap := 1; gap <= 20; gap++ {
		for wait := 1; wait <= 25; wait++ {
			m := waiting(t, set(gap, wait, 2), plain)
			rest(t, m, wait)
			if left := min(gap-wait, wait); left > 1 {
				rest(t, m, left-1)
			}
			tick(t, m, plainSent, none)
			rest(t, m, wait-1)
			tick(t, m, nothing, failed(master.Silent))
		}
	}
}

// The next try is sent a tick behind the one by which the last failed, as the bus is silent then.
func TestTheNextTryBehindGarbledIsSent(t *testing.T) {
	for gap := 1; gap <= 20; gap++ {
		m := waiting(t, set(gap, 30, 2), plain)
		m.Take([]byte{1})
		rest(t, m, gap)
		tick(t, m, plainSent, none)
	}
}

func TestAsManyTriesAsThereMayBe(t *testing.T) {
	for tries := 1; tries <= 5; tries++ {
		for _, came := range [][]byte{nil, {1}} {
			m := made(t, set(1, 1, tries))
			start(t, m, plain)
			for try := 1; try <= tries; try++ {
				tick(t, m, plainSent, none)
				m.Take(came)
				switch {
				case try < tries:
					tick(t, m, nothing, none)
				case came == nil:
					tick(t, m, nothing, failed(master.Silent))
				default:
					tick(t, m, nothing, failed(master.Garbled))
				}
			}
			rest(t, m, 5)
		}
	}
}

// The kind is that of the last try, whatever those ahead failed by.
func TestTheKindIsThatOfTheLastTry(t *testing.T) {
	for n := range 8 {
		m := made(t, set(1, 1, 3))
		start(t, m, plain)
		for try := range 3 {
			tick(t, m, plainSent, none)
			kind := master.Silent
			if n>>try&1 == 1 {
				m.Take([]byte{1})
				kind = master.Garbled
			}
			if try < 2 {
				kind = master.None
			}
			tick(t, m, nothing, failed(kind))
		}
	}
}
