package config_test

import (
	"bytes"
	"math"
	"slices"
	"strconv"
	"sync"
	"testing"

	"triune/api"
	"triune/config"
)

func TestWhatMayBeComesBack(t *testing.T) {
	next := numbers(3)
	for range 3000 {
		c := chance(next)
		b, e := config.Bytes(c)
		back, x := config.Read(b)
		if e != api.OK || x != api.OK || !alike(back, c) || !config.Same(back, c) {
			t.Fatalf("%v: %v, %v, %v", c, back, e, x)
		}
		if again, e := config.Bytes(back); !bytes.Equal(again, b) || e != api.OK {
			t.Fatalf("%x: %x, %v", b, again, e)
		}
	}
}

// Of bytes near those of images: what is read has just these as its image, and what is refused is refused by the right error.
func TestWhatIsReadHasJustThatImage(t *testing.T) {
	next, seen := numbers(4), map[api.Errno]int{}
	for range 20000 {
		body := laid(chance(next))
		for range 1 + next(3) {
			body[next(len(body))] = byte(next(256))
		}
		if next(8) == 0 {
			body = body[:next(len(body))]
		}
		b := summed(body)
		if next(8) == 0 {
			b[next(len(b))] ^= 1 << next(8)
		}
		c, e := config.Read(b)
		seen[e]++
		if e != api.OK {
			if !alike(c, config.Config{}) {
				t.Errorf("%x: %v beside %v", b, c, e)
			}
			continue
		}
		if image, e := config.Bytes(c); !bytes.Equal(image, b) || e != api.OK {
			t.Errorf("%x: %x, %v", b, image, e)
		}
	}
	if min(seen[api.OK], seen[api.ErrSum], seen[api.ErrForm], seen[api.ErrArg], seen[api.ErrTwice]) < 10 {
		t.Error(seen)
	}
}

func TestReadByAnotherWay(t *testing.T) {
	next := numbers(5)
	for range 20000 {
		body := laid(chance(next))[:18+9*next(2)]
		body[17] = byte(next(3))
		for range next(3) {
			body[4+next(len(body)-4)] = byte(next(30))
		}
		want, e := told(body)
		reads(t, strconv.Itoa(len(body))+" bytes", summed(body), want, e)
	}
}

// turned are bytes, of which the bits of pattern, from the bit at on, are turned (of each byte the lowest one first); there are none where one would stand behind the end.
func turned(b []byte, at int, pattern uint16) []byte {
	out := bytes.Clone(b)
	for i := range 16 {
		if pattern>>i&1 == 0 {
			continue
		}
		if (at+i)/8 >= len(b) {
			return nil
		}
		out[(at+i)/8] ^= 1 << ((at + i) % 8)
	}
	return out
}

// none holds against Read that no turned image is one.
func none(t *testing.T, b []byte, at int, pattern uint16) {
	x := turned(b, at, pattern)
	if x == nil {
		return
	}
	if c, e := config.Read(x); e != api.ErrSum || !alike(c, config.Config{}) {
		t.Errorf("at %d, by %04x: %v, %v", at, pattern, c, e)
	}
}

// In the shortest image: at each bit, each pattern of up to 16 bits that begins there (others begin at a later one).
func TestEachTurnOfAShortImage(t *testing.T) {
	b := exampleImage()
	var all sync.WaitGroup
	for at := range 8 * len(b) {
		all.Go(func() {
			for pattern := 1; pattern < 1<<16; pattern += 2 {
				none(t, b, at, uint16(pattern))
			}
		})
	}
	all.Wait()
}

// In others: at each bit, a bit alone, all of some, the first and the last of some, and some in no pattern.
func TestTurnsOfLongerImages(t *testing.T) {
	next := numbers(6)
	for _, c := range []config.Config{least(), mixed(), filled(16), greatest()} {
		b := summed(laid(c))
		for at := range 8 * len(b) {
			for n := range 16 {
				none(t, b, at, uint16(1<<(n+1)-1))
				none(t, b, at, uint16(1<<n|1))
				none(t, b, at, uint16(next(1<<16)|1))
			}
		}
	}
}

// roomy are points with three more behind them that no call may reach.
func roomy(l []api.Point) []api.Point {
	p := api.Point{Kind: 1, Addr: 2, At: 3, Band: 4, Safe: 5}
	return append(slices.Clone(l), p, p, p)
}

func TestWhatIsHandedInStays(t *testing.T) {
	l := append(samples()[:60], strange()...)
	for _, turn := range wrongs() {
		l = append(l, with(mixed(), turn))
	}
	for _, c := range l {
		n := len(c.Points)
		all := roomy(c.Points)
		kept := slices.Clone(all)
		c.Points = all[:n]
		was := c
		config.Check(c)
		config.Bytes(c)
		config.Same(c, example())
		config.Same(example(), c)
		config.Same(c, c)
		if !slices.Equal(all, kept) || !alike(c, was) {
			t.Errorf("%v, want %v", all, kept)
		}
	}
}

func TestBytesHandedInStay(t *testing.T) {
	other := append([]byte("abc"), make([]byte, 40)...)
	for _, body := range [][]byte{laid(example()), laid(mixed()), laid(greatest()), laid(filled(49)), laid(config.Config{}), other, nil} {
		for _, whole := range [][]byte{body, summed(body)} {
			b := append(bytes.Clone(whole), 1, 2, 3, 4, 5)
			kept := bytes.Clone(b)
			for n := range len(whole) + 1 {
				config.Read(b[:n])
				if !bytes.Equal(b, kept) {
					t.Fatalf("%d: %x, want %x", n, b, kept)
				}
			}
		}
	}
}

// flood writes over all of an answer, and behind it.
func flood[T any](list []T, by T) {
	list = list[:cap(list)]
	for i := range list {
		list[i] = by
	}
}

func TestAnswersShareNoMemory(t *testing.T) {
	strangePoint := api.Point{Kind: 77, Addr: 77, At: 77, Band: 77, Safe: 77}
	for _, c := range []config.Config{example(), mixed(), greatest()} {
		want := summed(laid(c))
		given := clone(c)
		b, _ := config.Bytes(given)
		other, _ := config.Bytes(given)
		flood(given.Points, strangePoint)
		if !bytes.Equal(b, want) {
			t.Errorf("told: %x, want %x", b, want)
		}
		flood(other, 0xee)
		if !bytes.Equal(b, want) || !alike(given, with(c, func(c *config.Config) { flood(c.Points, strangePoint) })) {
			t.Errorf("told beside another: %x, %v", b, given)
		}

		first, _ := config.Read(b)
		second, _ := config.Read(b)
		flood(b, 0xee)
		flood(second.Points, strangePoint)
		if !alike(first, c) {
			t.Errorf("read: %v, want %v", first, c)
		}
		b = bytes.Clone(want)
		first, _ = config.Read(b)
		flood(first.Points, strangePoint)
		if !bytes.Equal(b, want) {
			t.Errorf("handed in: %x, want %x", b, want)
		}
	}
}

// No call hangs on what another one was told.
func TestCallsKeepNothing(t *testing.T) {
	for _, c := range samples()[:60] {
		config.Read(exampleImage()[:20])
		config.Bytes(greatest())
		config.Check(config.Config{})
		hold(t, c, api.OK)
	}
}

func TestNoCallPanics(t *testing.T) {
	next := numbers(7)
	ints := []int{math.MinInt, -1 << 32, -65536, -1, 0, 1, 2, 3, 900, 65535, 65536, 1 << 32, math.MaxInt}
	one := func() int { return ints[next(len(ints))] }
	for range 20000 {
		c := config.Config{Gap: one(), Wait: one(), Tries: one(), Strikes: one(), Queue: one(), Idle: one(), Key: uint16(one())}
		for i := range c.Units {
			c.Units[i] = byte(one())
		}
		for range next(60) {
			c.Points = append(c.Points, api.Point{Kind: one(), Addr: one(), At: one(), Band: one(), Safe: one()})
		}
		hold(t, c, verdict(c))
		config.Same(c, example())
	}
	hold(t, config.Config{Points: make([]api.Point, 1<<20)}, api.ErrMany)
}

func TestReadOfAnyBytes(t *testing.T) {
	next := numbers(8)
	for range 20000 {
		b := make([]byte, next(600))
		for i := range b {
			b[i] = byte(next(256))
		}
		if next(2) == 0 {
			copy(b, "TMR1")
		}
		want, e := told(b)
		reads(t, strconv.Itoa(len(b))+" bytes", summed(b), want, e)
		config.Read(b)
	}
}

func TestCallsFromSeveralGoroutines(t *testing.T) {
	c := greatest()
	want := summed(laid(c))
	var all sync.WaitGroup
	for range 8 {
		all.Go(func() {
			for range 100 {
				b, e := config.Bytes(c)
				back, x := config.Read(want)
				if e != api.OK || x != api.OK || config.Check(c) != api.OK || !bytes.Equal(b, want) || !config.Same(back, c) {
					t.Error(b, e, back, x)
				}
			}
		})
	}
	all.Wait()
}
