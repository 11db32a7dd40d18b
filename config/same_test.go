package config_test

import (
	"math"
	"slices"
	"testing"

	"triune/api"
	"triune/config"
)

// same holds Same of two, both ways round, against what it must tell.
func same(t *testing.T, name string, a, b config.Config, want bool) {
	t.Helper()
	if is := config.Same(a, b); is != want {
		t.Errorf("%s: %v, %v: %v", name, a, b, is)
	}
	if is := config.Same(b, a); is != want {
		t.Errorf("%s, the other way round: %v, %v: %v", name, b, a, is)
	}
}

// strange are configurations that may not be; whether they are the same can be told all the same.
func strange() []config.Config {
	c := config.Config{Gap: -1, Wait: math.MinInt, Tries: math.MaxInt, Strikes: 1 << 40, Queue: -9, Idle: 1 << 16}
	d := c
	d.Points = []api.Point{{Kind: -1, Addr: math.MinInt, At: math.MaxInt, Band: 1 << 33, Safe: -7}, {}, {}}
	return []config.Config{{}, c, d, filled(100)}
}

func TestSameWhereAllIs(t *testing.T) {
	for _, c := range append(samples(), strange()...) {
		same(t, "itself", c, c, true)
		same(t, "a clone", c, clone(c), true)
	}
}

func TestSameOfNilAndEmptyPoints(t *testing.T) {
	for _, c := range strange()[:2] {
		d := c
		d.Points = []api.Point{}
		same(t, "empty", c, d, true)
		d.Points = filled(3).Points[:0]
		same(t, "empty, with room", c, d, true)
		d.Points = []api.Point{{}}
		same(t, "one that is zero", c, d, false)
	}
}

// others are numbers that are not n: beside it, and such whose lower bits are its.
func others(n int) []int {
	l := []int{0, -n, n - 1, n + 1, n + 256, n + 1<<16, n + 1<<32, ^n, n ^ 1<<20, n ^ math.MinInt}
	return slices.DeleteFunc(l, func(x int) bool { return x == n })
}

func TestNotSameWhereOneFieldIsAnother(t *testing.T) {
	for _, c := range []config.Config{example(), mixed(), least(), greatest()} {
		for i, p := range []*int{&c.Gap, &c.Wait, &c.Tries, &c.Strikes, &c.Queue, &c.Idle} {
			d, n := clone(c), *p
			for _, x := range others(n) {
				*p = x
				same(t, fields()[i].name, c, d, false)
			}
			*p = n
			same(t, fields()[i].name, c, d, true)
		}
	}
}

func TestNotSameWhereAUnitOrTheKeyIsAnother(t *testing.T) {
	for _, c := range append(strange(), example(), mixed()) {
		for bit := range 8 {
			for i := range 3 {
				same(t, "Unit", c, with(c, func(c *config.Config) { c.Units[i] ^= 1 << bit }), false)
			}
		}
		for bit := range 16 {
			same(t, "Key", c, with(c, func(c *config.Config) { c.Key ^= 1 << bit }), false)
		}
	}
	c := example()
	same(t, "Units in another order", c, with(c, func(c *config.Config) { slices.Reverse(c.Units[:]) }), false)
}

func TestNotSameWhereAPointIsAnother(t *testing.T) {
	for _, c := range []config.Config{example(), mixed(), filled(48), strange()[2]} {
		for i := range c.Points {
			for k, of := range []func(p *api.Point) *int{
				func(p *api.Point) *int { return &p.Kind },
				func(p *api.Point) *int { return &p.Addr },
				func(p *api.Point) *int { return &p.At },
				func(p *api.Point) *int { return &p.Band },
				func(p *api.Point) *int { return &p.Safe },
			} {
				for _, n := range others(*of(&c.Points[i])) {
					d := clone(c)
					*of(&d.Points[i]) = n
					if config.Same(c, d) || config.Same(d, c) {
						t.Errorf("%d of point %d: %v, %v", k, i, c, d)
					}
				}
			}
		}
	}
}

func TestNotSameOfListsOfOtherLengths(t *testing.T) {
	c := filled(48)
	for n := range 49 {
		for m := range 49 {
			a, b := c, c
			a.Points, b.Points = c.Points[:n], c.Points[:m]
			if config.Same(a, b) != (n == m) {
				t.Errorf("%d, %d", n, m)
			}
		}
	}
	d := with(c, func(c *config.Config) { c.Points = append(c.Points, api.Point{}) })
	same(t, "a zero point more", c, d, false)
	d = with(c, func(c *config.Config) { c.Points = c.Points[1:] })
	same(t, "without the first point", c, d, false)
}

func TestNotSameOfAnotherOrder(t *testing.T) {
	c := filled(48)
	for i := range 47 {
		same(t, "swapped", c, with(c, func(c *config.Config) {
			c.Points[i], c.Points[i+1] = c.Points[i+1], c.Points[i]
		}), false)
	}
}
