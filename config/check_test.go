package config_test

import (
	"math"
	"testing"

	"triune/api"
	"triune/config"
)

func TestSamplesMayBe(t *testing.T) {
	for _, c := range samples() {
		hold(t, c, api.OK)
	}
}

func TestNothingSetMayNotBe(t *testing.T) {
	hold(t, config.Config{}, api.ErrMany)
	hold(t, config.Config{Points: []api.Point{{}}}, api.ErrArg)
}

func TestHowManyPoints(t *testing.T) {
	for n := range 120 {
		want := api.ErrMany
		if n >= 1 && n <= 48 {
			want = api.OK
		}
		hold(t, filled(n), want)
	}
	for _, n := range []int{api.MostPoints + 1, 255, 256, 257, 256 + 48, 1 << 16, 1<<16 + 1} {
		c := filled(1)
		for i := range n - 1 {
			c.Points = append(c.Points, api.Point{Kind: api.Input, Addr: i, At: i})
		}
		hold(t, c, api.ErrMany)
	}
}

func TestNilAndEmptyPoints(t *testing.T) {
	for _, l := range [][]api.Point{nil, {}, make([]api.Point, 0, 10), filled(3).Points[:0]} {
		c := example()
		c.Points = l
		hold(t, c, api.ErrMany)
	}
}

func TestEachUnit(t *testing.T) {
	for i := range 3 {
		for n := range 256 {
			want := api.OK
			if n == 0 || n > 247 {
				want = api.ErrArg
			}
			for _, c := range []config.Config{example(), mixed(), least(), greatest()} {
				hold(t, with(c, func(c *config.Config) { c.Units[i] = byte(n) }), want)
			}
		}
	}
}

// The three channels are told nothing of each other: Units may be the same.
func TestUnitsOfOneNumber(t *testing.T) {
	for n := range 256 {
		want := api.OK
		if n == 0 || n > 247 {
			want = api.ErrArg
		}
		hold(t, with(example(), func(c *config.Config) { c.Units = [3]byte{byte(n), byte(n), byte(n)} }), want)
	}
}

func TestEachField(t *testing.T) {
	for _, f := range fields() {
		l := around(f.least, f.most)
		for n := range 1100 {
			l = append(l, n, -n)
		}
		for _, n := range l {
			want := api.ErrArg
			if n >= f.least && n <= f.most {
				want = api.OK
			}
			for _, c := range []config.Config{example(), least(), greatest()} {
				hold(t, with(c, func(c *config.Config) { f.put(c, n) }), want)
			}
		}
	}
}

func TestEachIdle(t *testing.T) {
	for n := range 1 << 16 {
		c := example()
		c.Idle = n
		want := api.OK
		if n == 0 {
			want = api.ErrArg
		}
		if e := config.Check(c); e != want {
			t.Fatalf("%d: %v, want %v", n, e, want)
		}
	}
}

func TestEachKeyMayBe(t *testing.T) {
	for n := range 1 << 16 {
		c := example()
		c.Key = uint16(n)
		if e := config.Check(c); e != api.OK {
			t.Fatalf("%d: %v", n, e)
		}
	}
	for _, n := range []uint16{0, 1, 255, 256, 0x1234, 0xff00, 0xffff} {
		hold(t, with(greatest(), func(c *config.Config) { c.Key = n }), api.OK)
	}
}

// Each limit of a field beside each one of another.
func TestSeveralFields(t *testing.T) {
	l := fields()
	for i, f := range l {
		for _, g := range l[:i] {
			for _, n := range []int{f.least - 1, f.least, f.most, f.most + 1} {
				for _, m := range []int{g.least - 1, g.least, g.most, g.most + 1} {
					c := example()
					f.put(&c, n)
					g.put(&c, m)
					hold(t, c, verdict(c))
				}
			}
		}
	}
}

func TestEachKind(t *testing.T) {
	for _, kind := range around(api.Holding, api.Discrete) {
		for _, i := range []int{0, 20, 47} {
			c := filled(48)
			c.Points[i] = api.Point{Kind: kind, Addr: 1, At: 899}
			want := api.ErrArg
			if kind >= 0 && kind <= 3 {
				want = api.OK
			}
			hold(t, c, want)
		}
	}
	for _, kind := range []int{-3, -2, -1, 4, 5, 6, 7, 258, 1<<32 + 2, math.MinInt + 3} {
		for _, safe := range []int{0, 1, 2} {
			c := example()
			c.Points[0] = api.Point{Kind: kind, Addr: 1, At: 2, Safe: safe}
			hold(t, c, api.ErrArg)
		}
	}
}

// Each number of a point of each Kind, wherever it stands among the points.
func TestEachFieldOfAPoint(t *testing.T) {
	for kind := range 4 {
		for _, i := range []int{0, 23, 47} {
			for _, f := range pointFields(i, kind) {
				for _, n := range around(f.least, f.most) {
					c := filled(48)
					c.Points[i] = api.Point{Kind: kind, Addr: 1, At: 899}
					f.put(&c, n)
					hold(t, c, verdict(c))
					may := f.least <= n && n <= f.most
					if e := config.Check(c); may != (e != api.ErrArg) {
						t.Errorf("%d of %d: %s %d: %v", kind, i, f.name, n, e)
					}
				}
			}
		}
	}
}

// Words may have any Band beside any Safe; bits none but 0 beside 0 and 1.
func TestBandBesideSafe(t *testing.T) {
	for kind := range 4 {
		for _, band := range []int{-1, 0, 1, 2, 65534, 65535, 65536} {
			for _, safe := range []int{-1, 0, 1, 2, 65534, 65535, 65536} {
				c := example()
				c.Points[0] = api.Point{Kind: kind, Addr: 7, At: 8, Band: band, Safe: safe}
				want := api.ErrArg
				words := kind == api.Holding || kind == api.Input
				if words && min(band, safe) >= 0 && max(band, safe) <= 65535 || !words && band == 0 && (safe == 0 || safe == 1) {
					want = api.OK
				}
				hold(t, c, want)
			}
		}
	}
}

func TestTwiceWhereverTheyStand(t *testing.T) {
	for i := range 48 {
		for k := range i {
			for kind := range 4 {
				c := filled(48)
				first := api.Point{Kind: kind, Addr: 1, At: 899}
				c.Points[k] = first
				for _, second := range []struct {
					p    api.Point
					want api.Errno
				}{
					{api.Point{Kind: kind, Addr: 2, At: 889}, api.OK},
					{api.Point{Kind: kind, Addr: 1, At: 889}, api.ErrTwice},
					{api.Point{Kind: kind, Addr: 2, At: 899}, api.ErrTwice},
					{first, api.ErrTwice},
					{api.Point{Kind: (kind + 1) % 4, Addr: 1, At: 899}, api.OK},
					{api.Point{Kind: (kind + 2) % 4, Addr: 1, At: 899}, api.OK},
				} {
					c.Points[i] = second.p
					if e := config.Check(c); e != second.want {
						t.Errorf("%d, %d: %v, %v: %v, want %v", k, i, first, second.p, e, second.want)
					}
				}
			}
		}
	}
}

func TestTwiceOfTwoPoints(t *testing.T) {
	a := api.Point{Kind: api.Holding, Addr: 5, At: 6, Band: 7, Safe: 8}
	for name, x := range map[string]struct {
		l    []api.Point
		want api.Errno
	}{
		"the same point":                    {[]api.Point{a, a}, api.ErrTwice},
		"of the same Kind and Addr":         {[]api.Point{a, {Kind: api.Holding, Addr: 5, At: 7}}, api.ErrTwice},
		"of the same Kind and At":           {[]api.Point{a, {Kind: api.Holding, Addr: 6, At: 6}}, api.ErrTwice},
		"the Addr of one is the other's At": {[]api.Point{a, {Kind: api.Holding, Addr: 6, At: 5}}, api.OK},
		"the same Band and Safe":            {[]api.Point{a, {Kind: api.Holding, Addr: 1, At: 2, Band: 7, Safe: 8}}, api.OK},
		"of two Kinds of words":             {[]api.Point{a, {Kind: api.Input, Addr: 5, At: 6, Band: 7, Safe: 8}}, api.OK},
		"of words, and of bits":             {[]api.Point{a, {Kind: api.Coil, Addr: 5, At: 6}}, api.OK},
		"of two Kinds of bits":              {[]api.Point{{Kind: api.Coil, Addr: 5, At: 6}, {Kind: api.Discrete, Addr: 5, At: 6}}, api.OK},
		"the first and the last of three":   {[]api.Point{a, {Kind: api.Input}, {Kind: api.Holding, Addr: 5}}, api.ErrTwice},
		"one's Addr, and another one's At":  {[]api.Point{a, {Addr: 1, At: 2}, {Addr: 1, At: 6}}, api.ErrTwice},
		"at 0":                              {[]api.Point{{}, {Addr: 0, At: 1}}, api.ErrTwice},
		"told at 0":                         {[]api.Point{{}, {Addr: 1, At: 0}}, api.ErrTwice},
		"at the last ones":                  {[]api.Point{{Addr: most, At: 899}, {Addr: most, At: 898}}, api.ErrTwice},
		"told at the last one":              {[]api.Point{{Addr: most, At: 899}, {Addr: most - 1, At: 899}}, api.ErrTwice},
	} {
		c := example()
		c.Points = x.l
		if e := config.Check(c); e != x.want {
			t.Errorf("%s: %v, want %v", name, e, x.want)
		}
		hold(t, c, x.want)
	}
}

// wrongs are ways to make numbers wrong of a configuration that has a point at least.
func wrongs() map[string]func(c *config.Config) {
	l := map[string]func(c *config.Config){
		"first Unit 0":  func(c *config.Config) { c.Units[0] = 0 },
		"last Unit 248": func(c *config.Config) { c.Units[2] = 248 },
	}
	for _, f := range fields() {
		l[f.name+" too low"] = func(c *config.Config) { f.put(c, f.least-1) }
		l[f.name+" too high"] = func(c *config.Config) { f.put(c, f.most+1) }
	}
	l["Kind of the first point"] = func(c *config.Config) { c.Points[0].Kind = 4 }
	l["Kind of the last point"] = func(c *config.Config) { c.Points[len(c.Points)-1].Kind = -1 }
	for _, f := range pointFields(0, api.Holding) {
		l[f.name+" of the first point"] = func(c *config.Config) { f.put(c, 65536) }
	}
	l["Addr of the last point"] = func(c *config.Config) { c.Points[len(c.Points)-1].Addr = -1 }
	l["At of the last point"] = func(c *config.Config) { c.Points[len(c.Points)-1].At = 900 }
	return l
}

func TestManyIsToldAheadOfArg(t *testing.T) {
	for name, turn := range wrongs() {
		c := with(filled(49), turn)
		if e := config.Check(c); e != api.ErrMany {
			t.Errorf("%s: %v", name, e)
		}
		c = with(example(), turn)
		c.Points = nil
		if e := config.Check(c); e != api.ErrMany {
			t.Errorf("%s: no points: %v", name, e)
		}
	}
}

func TestManyIsToldAheadOfTwice(t *testing.T) {
	for _, n := range []int{49, 50, 300} {
		hold(t, with(example(), func(c *config.Config) { c.Points = make([]api.Point, n) }), api.ErrMany)
	}
	hold(t, with(example(), func(c *config.Config) { c.Points = make([]api.Point, 48) }), api.ErrTwice)
}

// What is wrong may stand ahead of the two, be one of them, or stand behind both.
func TestArgIsToldAheadOfTwice(t *testing.T) {
	for name, turn := range wrongs() {
		for _, pair := range [][2]int{{0, 1}, {1, 2}, {0, 9}, {8, 9}} {
			c := filled(10)
			p := api.Point{Kind: api.Input, Addr: 3, At: 4}
			c.Points[pair[0]], c.Points[pair[1]] = p, p
			hold(t, c, api.ErrTwice)
			if e := config.Check(with(c, turn)); e != api.ErrArg {
				t.Errorf("%s: %v: %v", name, pair, e)
			}
		}
	}
}

func TestCheckByAnotherWay(t *testing.T) {
	next, seen := numbers(2), map[api.Errno]int{}
	for range 30000 {
		c := chance(next)
		for range next(3) {
			i := next(len(c.Points))
			l := append(fields(), pointFields(i, c.Points[i].Kind)...)
			f := l[next(len(l))]
			p := c.Points[next(len(c.Points))]
			near := []int{f.least - 1, f.least, f.most, f.most + 1, next(900), p.Addr, p.At, p.Addr, p.At}
			f.put(&c, near[next(len(near))])
		}
		e := config.Check(c)
		if e != verdict(c) {
			t.Errorf("%v: %v, want %v", c, e, verdict(c))
		}
		seen[e]++
	}
	if len(seen) != 3 || min(seen[api.OK], seen[api.ErrArg], seen[api.ErrTwice]) < 100 {
		t.Error(seen)
	}
}
