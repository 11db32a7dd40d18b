package config_test

import (
	"bytes"
	"math"
	"slices"
	"testing"

	"triune/api"
	"triune/config"
)

// The calls have just the signatures that the chapter lists, and a configuration just its fields.
var (
	_ func(config.Config) api.Errno           = config.Check
	_ func(config.Config) ([]byte, api.Errno) = config.Bytes
	_ func([]byte) (config.Config, api.Errno) = config.Read
	_ func(config.Config, config.Config) bool = config.Same
	_                                         = struct {
		Units                                  [api.Channels]byte
		Gap, Wait, Tries, Strikes, Queue, Idle int
		Key                                    uint16
		Points                                 []api.Point
	}(config.Config{})
)

// most is the highest number of two bytes.
const most = 65535

// example has one point; its image is laid by hand, and its sum reckoned elsewhere.
func example() config.Config {
	return config.Config{
		Units: [3]byte{1, 2, 3}, Gap: 2, Wait: 300, Tries: 3, Strikes: 4, Queue: 5, Idle: 600, Key: 0x1234,
		Points: []api.Point{{Kind: api.Holding, Addr: 107, At: 258, Band: 513, Safe: most}},
	}
}

// exampleImage is that of example.
func exampleImage() []byte {
	return []byte{
		'T', 'M', 'R', '1', 1, 2, 3, 2, 1, 44, 3, 4, 5, 2, 88, 0x12, 0x34, 1,
		0, 0, 107, 1, 2, 2, 1, 255, 255, 0xf1, 0x23,
	}
}

// mixed has two points of each Kind, those of another Kind at the same places.
func mixed() config.Config {
	c := example()
	c.Points = nil
	for _, at := range []int{0, 899} {
		c.Points = append(c.Points,
			api.Point{Kind: api.Discrete, Addr: at, At: at, Safe: 1},
			api.Point{Kind: api.Input, Addr: at, At: at, Band: most, Safe: at},
			api.Point{Kind: api.Coil, Addr: at, At: at},
			api.Point{Kind: api.Holding, Addr: at, At: at, Band: at, Safe: most})
	}
	return c
}

// least and greatest have each field at its limit.
func least() config.Config {
	return config.Config{
		Units: [3]byte{1, 1, 1}, Gap: 1, Wait: 1, Tries: 1, Strikes: 1, Queue: 1, Idle: 1,
		Points: []api.Point{{}},
	}
}

func greatest() config.Config {
	c := config.Config{
		Units: [3]byte{247, 247, 247}, Gap: 20, Wait: 1000, Tries: 5, Strikes: 20, Queue: 8, Idle: most, Key: most,
	}
	for i := range 48 {
		c.Points = append(c.Points, api.Point{Kind: api.Input, Addr: most - i, At: 899 - i, Band: most, Safe: most})
	}
	return c
}

// filled is example with n points, no two of which stand at one place.
func filled(n int) config.Config {
	c := example()
	c.Points = make([]api.Point, n)
	for i := range c.Points {
		c.Points[i] = api.Point{Kind: i % 4, Addr: 1000 + 7*i, At: 10*i%900 + i/90%10}
		if c.Points[i].Kind < 2 {
			c.Points[i].Band, c.Points[i].Safe = i, most-i
		}
	}
	return c
}

// samples are configurations that may be: ordinary ones, and those at the edges.
func samples() []config.Config {
	l := []config.Config{example(), mixed(), least(), greatest()}
	for n := 1; n <= 48; n++ {
		l = append(l, filled(n))
	}
	next := numbers(1)
	for range 300 {
		l = append(l, chance(next))
	}
	return l
}

// numbers tells numbers below n in no pattern, the same ones of each seed.
func numbers(seed uint32) func(n int) int {
	return func(n int) int {
		seed = seed*1664525 + 1013904223
		return int(uint64(seed>>8) * uint64(n) >> 24)
	}
}

// chance is a configuration that may be, in no pattern.
func chance(next func(int) int) config.Config {
	c := config.Config{
		Gap: 1 + next(20), Wait: 1 + next(1000), Tries: 1 + next(5), Strikes: 1 + next(20),
		Queue: 1 + next(8), Idle: 1 + next(most), Key: uint16(next(1 << 16)),
	}
	for i := range c.Units {
		c.Units[i] = byte(1 + next(247))
	}
	step, first := 1+next(1300), next(10)
	for i := range 1 + next(48) {
		p := api.Point{Kind: next(4), Addr: next(40) + step*i, At: first + 18*i}
		if p.Kind == api.Holding || p.Kind == api.Input {
			p.Band, p.Safe = next(1<<16), next(1<<16)
		} else {
			p.Safe = next(2)
		}
		c.Points = append(c.Points, p)
	}
	for i := range c.Points {
		k := next(i + 1)
		c.Points[i], c.Points[k] = c.Points[k], c.Points[i]
	}
	apart(c.Points)
	return c
}

// apart moves points of one Kind and Addr to other ones.
func apart(l []api.Point) {
	used := map[[2]int]int{}
	for i := range l {
		for used[[2]int{l[i].Kind, l[i].Addr}] > 0 {
			l[i].Addr = (l[i].Addr + 1) % (most + 1)
		}
		used[[2]int{l[i].Kind, l[i].Addr}]++
	}
}

// verdict is what Check must tell, by another way than the program's: each promise's words, one after the other.
func verdict(c config.Config) api.Errno {
	if len(c.Points) == 0 || len(c.Points) > 48 {
		return api.ErrMany
	}
	for _, u := range c.Units {
		if u == 0 || u > 247 {
			return api.ErrArg
		}
	}
	low := min(c.Gap, c.Wait, c.Tries, c.Strikes, c.Queue, c.Idle)
	if low < 1 || c.Gap > 20 || c.Wait > 1000 || c.Tries > 5 || c.Strikes > 20 || c.Queue > 8 || c.Idle > 65535 {
		return api.ErrArg
	}
	if slices.ContainsFunc(c.Points, wrong) {
		return api.ErrArg
	}
	addrs, ats := map[[2]int]int{}, map[[2]int]int{}
	for _, p := range c.Points {
		addrs[[2]int{p.Kind, p.Addr}]++
		ats[[2]int{p.Kind, p.At}]++
	}
	if len(addrs) < len(c.Points) || len(ats) < len(c.Points) {
		return api.ErrTwice
	}
	return api.OK
}

// wrong tells whether a point may not be.
func wrong(p api.Point) bool {
	if p.Addr < 0 || p.Addr > 65535 || p.At < 0 || p.At > 899 || p.Band < 0 || p.Safe < 0 {
		return true
	}
	switch p.Kind {
	case 0, 1:
		return p.Band > 65535 || p.Safe > 65535
	case 2, 3:
		return p.Band != 0 || p.Safe > 1
	}
	return true
}

// laid are the bytes that the document asks for of a configuration that may be, but for their sum.
func laid(c config.Config) []byte {
	b := []byte{
		'T', 'M', 'R', '1', c.Units[0], c.Units[1], c.Units[2], byte(c.Gap), byte(c.Wait / 256), byte(c.Wait % 256),
		byte(c.Tries), byte(c.Strikes), byte(c.Queue), byte(c.Idle / 256), byte(c.Idle % 256),
		byte(c.Key / 256), byte(c.Key % 256), byte(len(c.Points)),
	}
	for _, p := range c.Points {
		b = append(b, byte(p.Kind), byte(p.Addr/256), byte(p.Addr%256), byte(p.At/256), byte(p.At%256),
			byte(p.Band/256), byte(p.Band%256), byte(p.Safe/256), byte(p.Safe%256))
	}
	return b
}

// summed are bytes, and their sum behind them, by another way than the program's: bits, lowest first, as a polynomial over two elements, divided by x^16 + x^15 + x^2 + 1.
func summed(b []byte) []byte {
	bits := make([]byte, 8*len(b)+16)
	for i := range 8 * len(b) {
		bits[i] = b[i/8] >> (i % 8) & 1
	}
	for i := range 16 {
		bits[i] ^= 1
	}
	for i := range 8 * len(b) {
		if bits[i] == 1 {
			for _, at := range []int{0, 1, 14, 16} {
				bits[i+at] ^= 1
			}
		}
	}
	out := append(bytes.Clone(b), 0, 0)
	for i := range 16 {
		out[len(b)+i/8] |= bits[8*len(b)+i] << (i % 8)
	}
	return out
}

// told is what Read must tell of summed bytes, place by place.
func told(b []byte) (config.Config, api.Errno) {
	if len(b) < 18 || string(b[:4]) != "TMR1" || len(b) != 18+9*int(b[17]) {
		return config.Config{}, api.ErrForm
	}
	two := func(i int) int { return 256*int(b[i]) + int(b[i+1]) }
	c := config.Config{
		Units: [3]byte{b[4], b[5], b[6]}, Gap: int(b[7]), Wait: two(8), Tries: int(b[10]), Strikes: int(b[11]),
		Queue: int(b[12]), Idle: two(13), Key: uint16(two(15)),
	}
	for i := 18; i < len(b); i += 9 {
		c.Points = append(c.Points, api.Point{Kind: int(b[i]), Addr: two(i + 1), At: two(i + 3), Band: two(i + 5), Safe: two(i + 7)})
	}
	if e := verdict(c); e != api.OK {
		return config.Config{}, e
	}
	return c, api.OK
}

// alike tells whether two are the same, without the program's own word for it.
func alike(a, b config.Config) bool {
	if a.Units != b.Units || a.Key != b.Key || len(a.Points) != len(b.Points) {
		return false
	}
	if a.Gap != b.Gap || a.Wait != b.Wait || a.Tries != b.Tries || a.Strikes != b.Strikes || a.Queue != b.Queue || a.Idle != b.Idle {
		return false
	}
	for i, p := range a.Points {
		if p != b.Points[i] {
			return false
		}
	}
	return true
}

// clone is one that shares nothing with c.
func clone(c config.Config) config.Config {
	c.Points = slices.Clone(c.Points)
	return c
}

// with is c, turned.
func with(c config.Config, turn func(c *config.Config)) config.Config {
	c = clone(c)
	turn(&c)
	return c
}

// hold holds Check, Bytes and Read of a configuration against what they must tell.
func hold(t *testing.T, c config.Config, want api.Errno) {
	t.Helper()
	if e := config.Check(c); e != want {
		t.Errorf("%v: %v, want %v", c, e, want)
	}
	b, e := config.Bytes(c)
	if e != want {
		t.Errorf("%v: Bytes: %v, want %v", c, e, want)
	}
	if want != api.OK {
		if len(b) != 0 {
			t.Errorf("%v: %x beside %v", c, b, e)
		}
		return
	}
	if !bytes.Equal(b, summed(laid(c))) {
		t.Errorf("%v: %x, want %x", c, b, summed(laid(c)))
	}
	if back, e := config.Read(b); !alike(back, c) || e != api.OK {
		t.Errorf("%v: came back as %v, %v", c, back, e)
	}
}

// reads holds Read of bytes against what it must tell.
func reads(t *testing.T, name string, b []byte, want config.Config, e api.Errno) {
	t.Helper()
	c, got := config.Read(b)
	if got != e {
		t.Errorf("%s: %v, want %v", name, got, e)
	}
	if !alike(c, want) {
		t.Errorf("%s: %v, want %v", name, c, want)
	}
}

// refuses holds against Read that it tells an error, and nothing beside it.
func refuses(t *testing.T, name string, b []byte, e api.Errno) {
	t.Helper()
	reads(t, name, b, config.Config{}, e)
}

// number is a field that is one: how it is put, and its limits.
type number struct {
	name        string
	put         func(c *config.Config, n int)
	least, most int
}

// fields are the numbers of a configuration, but for its points' and its Units.
func fields() []number {
	return []number{
		{"Gap", func(c *config.Config, n int) { c.Gap = n }, 1, 20},
		{"Wait", func(c *config.Config, n int) { c.Wait = n }, 1, 1000},
		{"Tries", func(c *config.Config, n int) { c.Tries = n }, 1, 5},
		{"Strikes", func(c *config.Config, n int) { c.Strikes = n }, 1, 20},
		{"Queue", func(c *config.Config, n int) { c.Queue = n }, 1, 8},
		{"Idle", func(c *config.Config, n int) { c.Idle = n }, 1, 65535},
	}
}

// pointFields are the numbers of the point i, if it is of that Kind.
func pointFields(i, kind int) []number {
	band, safe := 65535, 65535
	if kind == api.Coil || kind == api.Discrete {
		band, safe = 0, 1
	}
	return []number{
		{"Addr", func(c *config.Config, n int) { c.Points[i].Addr = n }, 0, 65535},
		{"At", func(c *config.Config, n int) { c.Points[i].At = n }, 0, 899},
		{"Band", func(c *config.Config, n int) { c.Points[i].Band = n }, 0, band},
		{"Safe", func(c *config.Config, n int) { c.Points[i].Safe = n }, 0, safe},
	}
}

// around are numbers at limits, beside them, far from them, and such whose lower bits alone would be right.
func around(limits ...int) []int {
	l := []int{math.MinInt, math.MinInt + 1, math.MaxInt - 1, math.MaxInt}
	for _, n := range append(limits, 0, 1, 255, 256, 899, 1000, 1<<15, 1<<16, 1<<24, 1<<31, 1<<32, 1<<48) {
		for d := -2; d <= 2; d++ {
			l = append(l, n+d, -n+d, n+256+d, n+1<<16+d)
		}
	}
	slices.Sort(l)
	return slices.Compact(l)
}
