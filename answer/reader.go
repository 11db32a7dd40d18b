package answer

import (
	"bytes"

	"triune/api"
	"triune/ask"
	"triune/word"
)

// reader takes an answer's parts away from the beginning of bytes. Where one isn't there, or is none, it gives up by a panic, so that nobody must ask after each part whether there was one.
type reader struct{ rest []byte }

// read is the answer to a request that may be whose bytes b is.
func read(a ask.Ask, b []byte) (x Answer, e api.Errno) {
	defer func() {
		if recover() != nil { // it gave up; a panic of any other kind must not leave a call, either
			x, e = Answer{}, api.ErrForm
		}
	}()
	r := reader{b}
	x = r.answer(a)
	need(len(r.rest) == 0 && comes(a, x))
	return x, api.OK
}

// need gives up, if something is not.
func need(is bool) {
	if !is {
		panic(api.ErrForm)
	}
}

// take is the next n bytes, still those that were handed in.
func (r *reader) take(n int) []byte {
	need(n <= len(r.rest))
	b := r.rest[:n]
	r.rest = r.rest[n:]
	return b
}

// number is the next byte.
func (r *reader) number() int { return int(r.take(1)[0]) }

// counted are as many bytes as the next one tells.
func (r *reader) counted() []byte { return r.take(r.number()) }

// just takes bytes away that must be these.
func (r *reader) just(b []byte) { need(bytes.Equal(r.take(len(b)), b)) }

// answer is the one to a request; whether it may come of it is not asked.
func (r *reader) answer(a ask.Ask) Answer {
	code := r.number()
	if code != failed+a.Code {
		need(code == a.Code)
		return r.body(a)
	}
	exception := r.number()
	need(exception != 0) // which would be taken for an answer that has none
	return Answer{Exception: exception}
}

// body is the answer of what stands behind the code where there is no exception.
func (r *reader) body(a ask.Ask) Answer {
	switch a.Code {
	case api.ReadCoils, api.ReadDiscrete:
		l, is := word.Bits(r.counted(), a.Count)
		need(is)
		return Answer{Bits: l}
	case api.ReadHolding, api.ReadInput, api.ReadWrite:
		l, is := word.Words(r.counted())
		need(is)
		return Answer{Words: l}
	case api.Identify:
		return Answer{Texts: r.texts(a)}
	}
	r.just(echo(a))
	return Answer{}
}

// texts are those of an answer.
func (r *reader) texts(a ask.Ask) []string {
	r.just(textsAhead(a))
	l := make([]string, r.number())
	for i := range l {
		need(r.number() == a.Addr+i)
		l[i] = string(r.counted())
	}
	return l
}
