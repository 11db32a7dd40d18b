package config

import (
	"errors"
	"testing"

	"triune/api"
)

// set is a configuration of n points that may be.
func set(n int) Config {
	c := Config{Units: [3]byte{1, 2, 3}, Gap: 1, Wait: 1, Tries: 1, Strikes: 1, Queue: 1, Idle: 1}
	for i := range n {
		c.Points = append(c.Points, api.Point{Addr: i, At: i})
	}
	return c
}

// However far inside its places an error is, it is taken out.
func TestNumberOfAnErrorInItsPlaces(t *testing.T) {
	for _, e := range []api.Errno{api.ErrArg, api.ErrForm, api.ErrMany, api.ErrSum, api.ErrTwice} {
		once := fault{"Gap", e}
		for _, err := range []error{e, once, fault{"Points 3", once}, fault{"image", fault{"Points 3", once}}} {
			if n := number(err); n != e {
				t.Errorf("%v: %v, want %v", err, n, e)
			}
		}
	}
	if n := number(nil); n != api.OK {
		t.Error(n)
	}
}

func TestErrorsCarryTheirPlace(t *testing.T) {
	for place, turn := range map[string]func(c *Config){
		"Points: triune: error 4":          func(c *Config) { c.Points = nil },
		"Units 2: triune: error 1":         func(c *Config) { c.Units[2] = 0 },
		"Gap: triune: error 1":             func(c *Config) { c.Gap = 21 },
		"Wait: triune: error 1":            func(c *Config) { c.Wait = 0 },
		"Tries: triune: error 1":           func(c *Config) { c.Tries = 6 },
		"Strikes: triune: error 1":         func(c *Config) { c.Strikes = 21 },
		"Queue: triune: error 1":           func(c *Config) { c.Queue = 9 },
		"Idle: triune: error 1":            func(c *Config) { c.Idle = 1 << 16 },
		"Points 0: Kind: triune: error 1":  func(c *Config) { c.Points[0].Kind = 4 },
		"Points 1: Addr: triune: error 1":  func(c *Config) { c.Points[1].Addr = -1 },
		"Points 11: At: triune: error 1":   func(c *Config) { c.Points[11].At = 900 },
		"Points 10: Band: triune: error 1": func(c *Config) { c.Points[10].Band = 1 << 16 },
		"Points 9: Safe: triune: error 1":  func(c *Config) { c.Points[9].Safe = -1 },
		"Points 10: triune: error 9":       func(c *Config) { c.Points[10].Addr = 3 },
	} {
		c := set(12)
		if err := check(c); err != nil {
			t.Fatal(err)
		}
		turn(&c)
		err := check(c)
		if err == nil || err.Error() != place {
			t.Errorf("%v, want %s", err, place)
		}
		var f fault
		if !errors.As(err, &f) || number(err) != number(f) {
			t.Errorf("%v: %v", err, f)
		}
	}
}

func TestErrorsOfReadCarryTheirPlace(t *testing.T) {
	for place, b := range map[string][]byte{
		"sum: triune: error 6":  {0, 0},
		"form: triune: error 2": {0xff, 0xff},
	} {
		if _, err := read(b); err == nil || err.Error() != place {
			t.Errorf("%v, want %s", err, place)
		}
	}
}
