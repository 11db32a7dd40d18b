package config_test

import (
	"bytes"
	"testing"

	"triune/api"
	"triune/config"
)

func TestImageOfTheDocument(t *testing.T) {
	b, e := config.Bytes(example())
	if len(b) != 29 || !bytes.Equal(b, exampleImage()) || e != api.OK {
		t.Errorf("%x, %v", b, e)
	}
	reads(t, "the example", exampleImage(), example(), api.OK)
}

func TestImageOfEachNumberOfPoints(t *testing.T) {
	for n := 1; n <= 48; n++ {
		b, e := config.Bytes(filled(n))
		if len(b) != 20+9*n || e != api.OK || int(b[17]) != n {
			t.Errorf("%d: %x, %v", n, b, e)
		}
	}
}

// Each number stands just at its place: where it is another one, all other bytes but the sum stay.
func TestImageTellsEachNumber(t *testing.T) {
	for name, x := range map[string]struct {
		turn func(c *config.Config)
		at   int
		b    []byte
	}{
		"Unit 0":           {func(c *config.Config) { c.Units[0] = 247 }, 4, []byte{247}},
		"Unit 1":           {func(c *config.Config) { c.Units[1] = 246 }, 5, []byte{246}},
		"Unit 2":           {func(c *config.Config) { c.Units[2] = 128 }, 6, []byte{128}},
		"Gap":              {func(c *config.Config) { c.Gap = 19 }, 7, []byte{19}},
		"Wait, one byte":   {func(c *config.Config) { c.Wait = 255 }, 8, []byte{0, 255}},
		"Wait, two bytes":  {func(c *config.Config) { c.Wait = 1000 }, 8, []byte{3, 232}},
		"Tries":            {func(c *config.Config) { c.Tries = 5 }, 10, []byte{5}},
		"Strikes":          {func(c *config.Config) { c.Strikes = 20 }, 11, []byte{20}},
		"Queue":            {func(c *config.Config) { c.Queue = 8 }, 12, []byte{8}},
		"Idle, one byte":   {func(c *config.Config) { c.Idle = 1 }, 13, []byte{0, 1}},
		"Idle, two bytes":  {func(c *config.Config) { c.Idle = 65280 }, 13, []byte{255, 0}},
		"Key, lower byte":  {func(c *config.Config) { c.Key = 255 }, 15, []byte{0, 255}},
		"Key, higher byte": {func(c *config.Config) { c.Key = 0xff00 }, 15, []byte{255, 0}},
		"Key, all bits":    {func(c *config.Config) { c.Key = 0xffff }, 15, []byte{255, 255}},
		"Kind":             {func(c *config.Config) { c.Points[0].Kind = 1 }, 18, []byte{1}},
		"Addr":             {func(c *config.Config) { c.Points[0].Addr = 0xfedc }, 19, []byte{0xfe, 0xdc}},
		"At":               {func(c *config.Config) { c.Points[0].At = 899 }, 21, []byte{3, 131}},
		"Band":             {func(c *config.Config) { c.Points[0].Band = 0x8001 }, 23, []byte{0x80, 1}},
		"Safe":             {func(c *config.Config) { c.Points[0].Safe = 0x0100 }, 25, []byte{1, 0}},
	} {
		want := exampleImage()[:27]
		copy(want[x.at:], x.b)
		c := with(example(), x.turn)
		b, e := config.Bytes(c)
		if !bytes.Equal(b, summed(want)) || e != api.OK {
			t.Errorf("%s: %x, %v, want %x", name, b, e, want)
		}
		reads(t, name, summed(want), c, api.OK)
	}
}

// Points stand in their order, whatever they are.
func TestImageOfPointsInTheirOrder(t *testing.T) {
	for i := range 48 {
		c := filled(48)
		c.Points = append(c.Points[i:], c.Points[:i]...)
		hold(t, c, api.OK)
	}
}

func TestNoImageOfWhatMayNotBe(t *testing.T) {
	for name, turn := range wrongs() {
		if b, e := config.Bytes(with(mixed(), turn)); len(b) != 0 || e != api.ErrArg {
			t.Errorf("%s: %x, %v", name, b, e)
		}
	}
	for _, n := range []int{0, 49} {
		if b, e := config.Bytes(filled(n)); len(b) != 0 || e != api.ErrMany {
			t.Errorf("%d points: %x, %v", n, b, e)
		}
	}
	twice := with(filled(48), func(c *config.Config) { c.Points[47] = c.Points[0] })
	if b, e := config.Bytes(twice); len(b) != 0 || e != api.ErrTwice {
		t.Errorf("twice: %x, %v", b, e)
	}
}
