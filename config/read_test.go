package config_test

import (
	"bytes"
	"slices"
	"strconv"
	"testing"

	"triune/api"
	"triune/config"
)

func TestReadOfNoBytes(t *testing.T) {
	refuses(t, "nil", nil, api.ErrSum)
	refuses(t, "empty", []byte{}, api.ErrSum)
	refuses(t, "room for more", make([]byte, 0, 100), api.ErrSum)
	for n := range 256 {
		refuses(t, "a byte", []byte{byte(n)}, api.ErrSum)
	}
	refuses(t, "the sum of nothing", []byte{0xff, 0xff}, api.ErrForm)
	refuses(t, "another sum of nothing", []byte{0xff, 0xfe}, api.ErrSum)
	refuses(t, "two bytes 0", []byte{0, 0}, api.ErrSum)
}

func TestReadOfWhatHasNoSum(t *testing.T) {
	for i, c := range []config.Config{example(), mixed(), least(), greatest()} {
		body := laid(c)
		whole := summed(body)
		n := len(body)
		reads(t, "whole", whole, c, api.OK)
		refuses(t, "without a sum", body, api.ErrSum)
		refuses(t, "a sum of 0", append(bytes.Clone(body), 0, 0), api.ErrSum)
		swapped := bytes.Clone(whole)
		swapped[n], swapped[n+1] = swapped[n+1], swapped[n]
		refuses(t, strconv.Itoa(i)+": the sum's bytes in the other order", swapped, api.ErrSum)
		refuses(t, "summed twice", summed(whole), api.ErrForm)
		refuses(t, "with half of a sum behind it", append(bytes.Clone(whole), 0), api.ErrForm)
	}
}

// With a byte 0 behind it an image has its sum still: that of bytes and their sum is 0.
func TestReadOfWhatHasBytesBehind(t *testing.T) {
	for _, c := range []config.Config{example(), mixed()} {
		whole := summed(laid(c))
		for _, behind := range [][]byte{{1}, {0xff}, {1, 2}, {0, 1}, bytes.Repeat([]byte{7}, 9), whole[:9], []byte("TMR1")} {
			refuses(t, "behind", slices.Concat(whole, behind), api.ErrSum)
		}
		for n := 1; n < 30; n++ {
			refuses(t, "summed", summed(slices.Concat(laid(c), make([]byte, n))), api.ErrForm)
			refuses(t, "bytes 0", slices.Concat(whole, make([]byte, n)), api.ErrForm)
		}
		refuses(t, "an image behind", slices.Concat(whole, whole), api.ErrSum)
		refuses(t, "its body behind, summed", summed(slices.Concat(whole, laid(c))), api.ErrForm)
	}
}

func TestReadOfAnImageCutOff(t *testing.T) {
	for _, c := range []config.Config{example(), mixed(), filled(48)} {
		body := laid(c)
		whole := summed(body)
		for n := range whole {
			refuses(t, strconv.Itoa(n)+" bytes", whole[:n], api.ErrSum)
		}
		for n := range body {
			refuses(t, strconv.Itoa(n)+" summed bytes", summed(body[:n]), api.ErrForm)
		}
		for n := 1; n < len(body); n++ {
			refuses(t, "without the first "+strconv.Itoa(n), summed(body[n:]), api.ErrForm)
		}
	}
}

func TestReadOfAnotherText(t *testing.T) {
	body := laid(example())
	for i := range 4 {
		for n := range 256 {
			b := bytes.Clone(body)
			b[i] = byte(n)
			if b[i] != body[i] {
				refuses(t, strconv.Quote(string(b[:4])), summed(b), api.ErrForm)
			}
		}
	}
	for _, text := range []string{"", "T", "TMR", "1RMT", "tmr1", "TMR2", "TMR10", " TMR1", "TMR1TMR1"} {
		refuses(t, text, summed(slices.Concat([]byte(text), body[4:])), api.ErrForm)
		refuses(t, text+" alone", summed([]byte(text)), api.ErrForm)
	}
	refuses(t, "the text alone", summed([]byte("TMR1")), api.ErrForm)
}

// Each number of points that an image tells, beside each that it has.
func TestReadOfAnotherNumberOfPoints(t *testing.T) {
	for has := range 60 {
		body := laid(filled(has))
		for tells := range 256 {
			body[17] = byte(tells)
			want, e := told(body)
			if has != tells && e != api.ErrForm || has == tells && has >= 1 && has <= 48 && e != api.OK {
				t.Fatalf("%d, %d: %v", has, tells, e)
			}
			reads(t, strconv.Itoa(has)+" points, told as "+strconv.Itoa(tells), summed(body), want, e)
		}
	}
}

func TestReadOfTooManyPoints(t *testing.T) {
	for has := 49; has < 300; has++ {
		body := laid(filled(has))
		e := api.ErrMany
		if has > 255 {
			e = api.ErrForm
		}
		refuses(t, strconv.Itoa(has)+" points", summed(body), e)
	}
	refuses(t, "no points", summed(laid(filled(0))), api.ErrMany)
	none := laid(example())
	none[17] = 0
	refuses(t, "one that is told as none", summed(none), api.ErrForm)
	refuses(t, "256 that are told as none", summed(laid(filled(256))), api.ErrForm)
}

// A point has just 9 bytes: none is left out at the end, and none is too many.
func TestReadOfPartsOfPoints(t *testing.T) {
	body := laid(filled(3))
	for n := range 70 {
		b := append(bytes.Clone(body[:18]), bytes.Repeat([]byte{0}, n)...)
		for count := range 6 {
			b[17] = byte(count)
			want, e := told(b)
			if n != 9*count && e != api.ErrForm {
				t.Fatal(n, count, e)
			}
			reads(t, strconv.Itoa(n)+" bytes of "+strconv.Itoa(count), summed(b), want, e)
		}
	}
}

// At each place of an image each byte that there is: what it tells, or why it is refused.
func TestReadOfEachByteAtEachPlace(t *testing.T) {
	for _, c := range []config.Config{example(), mixed(), least()} {
		body := laid(c)
		for i := range body {
			for n := range 256 {
				b := bytes.Clone(body)
				b[i] = byte(n)
				want, e := told(b)
				reads(t, strconv.Itoa(n)+" at "+strconv.Itoa(i), summed(b), want, e)
			}
		}
	}
}

// put lays two bytes at a place of an image's body.
func put(c config.Config, at, n int) []byte {
	b := laid(c)
	b[at], b[at+1] = byte(n/256), byte(n%256)
	return summed(b)
}

func TestReadOfEachNumberOfTwoBytes(t *testing.T) {
	held := func(at int, name string, may func(n int) bool, of func(c config.Config) int) {
		for n := range 1 << 16 {
			c, e := config.Read(put(example(), at, n))
			if may(n) && (e != api.OK || of(c) != n) || !may(n) && (e != api.ErrArg || !alike(c, config.Config{})) {
				t.Fatalf("%s %d: %v, %v", name, n, c, e)
			}
		}
	}
	each := func(int) bool { return true }
	held(8, "Wait", func(n int) bool { return n >= 1 && n <= 1000 }, func(c config.Config) int { return c.Wait })
	held(13, "Idle", func(n int) bool { return n >= 1 }, func(c config.Config) int { return c.Idle })
	held(15, "Key", each, func(c config.Config) int { return int(c.Key) })
	held(19, "Addr", each, func(c config.Config) int { return c.Points[0].Addr })
	held(21, "At", func(n int) bool { return n <= 899 }, func(c config.Config) int { return c.Points[0].At })
	held(23, "Band", each, func(c config.Config) int { return c.Points[0].Band })
	held(25, "Safe", each, func(c config.Config) int { return c.Points[0].Safe })
}

// Each error of Check, of images that have the form.
func TestReadOfWhatMayNotBe(t *testing.T) {
	for name, turn := range wrongs() {
		c := with(filled(10), turn)
		back, e := told(laid(c)) // a number that a byte has no room for is another one there
		reads(t, name, summed(laid(c)), back, e)
	}
	bits := func(band, safe int) func(c *config.Config) {
		return func(c *config.Config) {
			c.Points[4] = api.Point{Kind: api.Coil, Addr: 1, At: 899, Band: band, Safe: safe}
		}
	}
	for name, x := range map[string]struct {
		turn func(c *config.Config)
		e    api.Errno
	}{
		"Unit 0":                  {func(c *config.Config) { c.Units[1] = 0 }, api.ErrArg},
		"Unit 248":                {func(c *config.Config) { c.Units[1] = 248 }, api.ErrArg},
		"Gap 0":                   {func(c *config.Config) { c.Gap = 0 }, api.ErrArg},
		"Gap 21":                  {func(c *config.Config) { c.Gap = 21 }, api.ErrArg},
		"Wait 0":                  {func(c *config.Config) { c.Wait = 0 }, api.ErrArg},
		"Wait 1001":               {func(c *config.Config) { c.Wait = 1001 }, api.ErrArg},
		"Tries 0":                 {func(c *config.Config) { c.Tries = 0 }, api.ErrArg},
		"Tries 6":                 {func(c *config.Config) { c.Tries = 6 }, api.ErrArg},
		"Strikes 0":               {func(c *config.Config) { c.Strikes = 0 }, api.ErrArg},
		"Strikes 21":              {func(c *config.Config) { c.Strikes = 21 }, api.ErrArg},
		"Queue 0":                 {func(c *config.Config) { c.Queue = 0 }, api.ErrArg},
		"Queue 9":                 {func(c *config.Config) { c.Queue = 9 }, api.ErrArg},
		"Idle 0":                  {func(c *config.Config) { c.Idle = 0 }, api.ErrArg},
		"Kind 4":                  {func(c *config.Config) { c.Points[9].Kind = 4 }, api.ErrArg},
		"At 900":                  {func(c *config.Config) { c.Points[9].At = 900 }, api.ErrArg},
		"a bit with a Band":       {bits(1, 0), api.ErrArg},
		"a bit of two":            {bits(0, 2), api.ErrArg},
		"a bit of 256":            {bits(0, 256), api.ErrArg},
		"a bit with a Band 256":   {bits(256, 0), api.ErrArg},
		"a bit":                   {bits(0, 1), api.OK},
		"the same Kind and Addr":  {func(c *config.Config) { c.Points[8].Addr = c.Points[0].Addr }, api.ErrTwice},
		"the same Kind and At":    {func(c *config.Config) { c.Points[8].At = c.Points[0].At }, api.ErrTwice},
		"the same point":          {func(c *config.Config) { c.Points[9] = c.Points[0] }, api.ErrTwice},
		"the same Addr and At":    {func(c *config.Config) { c.Points[9].Addr, c.Points[9].At = c.Points[0].Addr, c.Points[0].At }, api.OK},
		"no points":               {func(c *config.Config) { c.Points = nil }, api.ErrMany},
		"no points, and Gap 0":    {func(c *config.Config) { c.Points, c.Gap = nil, 0 }, api.ErrMany},
		"49 points, and Unit 0":   {func(c *config.Config) { c.Points, c.Units[0] = filled(49).Points, 0 }, api.ErrMany},
		"49 points of one place":  {func(c *config.Config) { c.Points = make([]api.Point, 49) }, api.ErrMany},
		"48 points of one place":  {func(c *config.Config) { c.Points = make([]api.Point, 48) }, api.ErrTwice},
		"the same one, and Gap 0": {func(c *config.Config) { c.Points[9], c.Gap = c.Points[0], 0 }, api.ErrArg},
	} {
		c := with(filled(10), x.turn)
		want := c
		if x.e != api.OK {
			want = config.Config{}
		}
		reads(t, name, summed(laid(c)), want, x.e)
	}
}

// ErrSum is told ahead of ErrForm, and ErrForm ahead of what Check tells.
func TestErrorsOfReadInTheirOrder(t *testing.T) {
	for name, turn := range wrongs() {
		body := laid(with(filled(10), turn))
		form := append(bytes.Clone(body), 0)
		refuses(t, name+", and a byte too many", summed(form), api.ErrForm)
		text := bytes.Clone(body)
		text[3] = '2'
		refuses(t, name+", and another text", summed(text), api.ErrForm)
		refuses(t, name+", cut off", summed(body[:17]), api.ErrForm)
		for _, b := range [][]byte{body, form, text} {
			b := summed(b)
			b[len(b)-1] ^= 0x80
			refuses(t, name+", and another sum", b, api.ErrSum)
		}
	}
}

func TestReadOfLongBytes(t *testing.T) {
	for _, n := range []int{1000, 1 << 12, 1 << 16} {
		long := append(laid(example()), make([]byte, n)...)
		refuses(t, "long", summed(long), api.ErrForm)
		refuses(t, "long, with no sum", long, api.ErrSum)
	}
}
