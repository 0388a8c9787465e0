package config

import (
	"math"
	"math/big"
	"slices"
	"testing"

	"pacemaker/api"
	"pacemaker/fix"
)

const (
	one  = api.One
	top  = api.Top
	most = math.MaxInt
	low  = math.MinInt
)

// numbers are ints at which roundings, signs, bounds and ends turn, from the least up.
func numbers() []int {
	return []int{
		low, low + 1, -top - 1, -top, -top + 1, -1 << 40, -1000001, -1000000, -999999, -1000, -3, -1,
		0,
		1, 2, 3, 7, 999, 1000, 1001, 9999, 10000, 10001, 10486, 50000, 499999, 500000, 500001, one/2 - 1, one / 2, 999999, 1000000, 1000001, one - 1, one, one + 1,
		124999999, 125000000, 125000001, 1000000000, 1<<40 - 1, 1 << 40, 1<<40 + 1, 1<<50 + 7, top / 1000000, top/1000000 + 1, top - 1, top, top + 1, most - 1, most,
	}
}

// bounds are right configs, and others, whose least and greatest rates are far apart, near, the same, in the wrong order, and at all ends.
func bounds() []api.Config {
	var l []api.Config
	for _, x := range [][2]int{{10000, 125000000}, {1000, 1000000000}, {50000, 50000}, {10001, 10002}, {20000, 10000}, {0, 0}, {-5, 5}, {-1000, -10}, {5, -5}, {low, most}, {most, low}, {low, low}, {most, most}, {0, most}, {top - 1, top + 1}, {-top - 1, 0}} {
		c := Usual(api.Vivace)
		c.MinRate, c.MaxRate = x[0], x[1]
		l = append(l, c)
	}
	return l
}

func bigOf(n int) *big.Int { return big.NewInt(int64(n)) }

func outside(n, least, greatest int) bool { return n < least || n > greatest }

// wrongs are the six of P8.1, word for word and in their order.
func wrongs(c api.Config) [6]bool {
	product := new(big.Int).Mul(bigOf(c.Eps), bigOf(c.Steps))
	return [6]bool{
		outside(c.Mode, 1, 5),
		c.MinRate < 1000 || c.MaxRate > 1000000000 || outside(c.StartRate, c.MinRate, c.MaxRate),
		outside(c.Packet, 64, 9000) || outside(c.Burst, c.Packet, 1048576) || outside(c.Ring, 1, 4096),
		outside(c.MiMin, 1000, 10000000) || outside(c.MiMax, c.MiMin, 10000000) || outside(c.Timeout, c.MiMax, 60000000),
		outside(c.Eps, 1, 262144) || outside(c.Steps, 1, 16) || product.Cmp(bigOf(524288)) > 0 || outside(c.Omega, 1, 524288) || outside(c.Widen, 0, 524288),
		outside(c.Gain, 1, 1099511627776) || outside(c.Knee, 1, 524288) || outside(c.Slope, 1, 1099511627776) || outside(c.Power, 1, 1048576) ||
			outside(c.Lag, 0, 1099511627776) || outside(c.Loss, 0, 1099511627776) || outside(c.Jitter, 0, 1099511627776) || outside(c.Cut, 0, 1000000000),
	}
}

// checked is P8.1 by its own words: the first of the six.
func checked(c api.Config) api.Errno {
	for i, wrong := range wrongs(c) {
		if wrong {
			return api.ErrMode + api.Errno(i)
		}
	}
	return api.OK
}

// field is one of a config's, with the least and the greatest number that it may have where all others are usual.
type field struct {
	name            string
	of              func(c *api.Config) *int
	least, greatest int
	wrong           api.Errno
}

func fields() []field {
	return []field{
		{"Mode", func(c *api.Config) *int { return &c.Mode }, 1, 5, api.ErrMode},
		{"MinRate", func(c *api.Config) *int { return &c.MinRate }, 1000, 50000, api.ErrRate},
		{"MaxRate", func(c *api.Config) *int { return &c.MaxRate }, 50000, 1000000000, api.ErrRate},
		{"StartRate", func(c *api.Config) *int { return &c.StartRate }, 10000, 125000000, api.ErrRate},
		{"Packet", func(c *api.Config) *int { return &c.Packet }, 64, 9000, api.ErrSize},
		{"Burst", func(c *api.Config) *int { return &c.Burst }, 1500, 1048576, api.ErrSize},
		{"Ring", func(c *api.Config) *int { return &c.Ring }, 1, 4096, api.ErrSize},
		{"MiMin", func(c *api.Config) *int { return &c.MiMin }, 1000, 100000, api.ErrSpan},
		{"MiMax", func(c *api.Config) *int { return &c.MiMax }, 10000, 3000000, api.ErrSpan},
		{"Timeout", func(c *api.Config) *int { return &c.Timeout }, 100000, 60000000, api.ErrSpan},
		{"Eps", func(c *api.Config) *int { return &c.Eps }, 1, 104857, api.ErrStep}, // times 5 this is 524285
		{"Steps", func(c *api.Config) *int { return &c.Steps }, 1, 16, api.ErrStep},
		{"Omega", func(c *api.Config) *int { return &c.Omega }, 1, 524288, api.ErrStep},
		{"Widen", func(c *api.Config) *int { return &c.Widen }, 0, 524288, api.ErrStep},
		{"Gain", func(c *api.Config) *int { return &c.Gain }, 1, 1099511627776, api.ErrGain},
		{"Knee", func(c *api.Config) *int { return &c.Knee }, 1, 524288, api.ErrGain},
		{"Slope", func(c *api.Config) *int { return &c.Slope }, 1, 1099511627776, api.ErrGain},
		{"Power", func(c *api.Config) *int { return &c.Power }, 1, 1048576, api.ErrGain},
		{"Lag", func(c *api.Config) *int { return &c.Lag }, 0, 1099511627776, api.ErrGain},
		{"Loss", func(c *api.Config) *int { return &c.Loss }, 0, 1099511627776, api.ErrGain},
		{"Jitter", func(c *api.Config) *int { return &c.Jitter }, 0, 1099511627776, api.ErrGain},
		{"Cut", func(c *api.Config) *int { return &c.Cut }, 0, 1000000000, api.ErrGain},
	}
}

func TestCheckOfEachField(t *testing.T) { // P8.1
	for _, f := range fields() {
		for _, n := range []int{low, low + 1, -1 << 40, -1, 0, f.least - 1, f.least, f.least + 1, f.greatest - 1, f.greatest, f.greatest + 1, 1<<40 + 1, most - 1, most} {
			want := api.OK
			if outside(n, f.least, f.greatest) {
				want = f.wrong
			}
			c := Usual(api.Hybrid)
			*f.of(&c) = n
			if e := Check(c); e != want {
				t.Errorf("%s %d: %d", f.name, n, e)
			}
		}
	}
}

func TestCheckOfFieldsTogether(t *testing.T) { // P8.1
	for i, x := range []struct {
		set  func(c *api.Config)
		want api.Errno
	}{
		{func(c *api.Config) { c.MinRate, c.MaxRate, c.StartRate = 1000, 1000, 1000 }, api.OK},
		{func(c *api.Config) { c.MinRate, c.MaxRate, c.StartRate = 1000000000, 1000000000, 1000000000 }, api.OK},
		{func(c *api.Config) { c.MinRate, c.MaxRate, c.StartRate = 20000, 10000, 20000 }, api.ErrRate}, // none is from 20000 to 10000
		{func(c *api.Config) { c.MinRate, c.MaxRate, c.StartRate = 20000, 10000, 10000 }, api.ErrRate},
		{func(c *api.Config) { c.MinRate, c.MaxRate, c.StartRate = 20000, 10000, 15000 }, api.ErrRate},
		{func(c *api.Config) { c.MinRate, c.MaxRate, c.StartRate = 1000000001, 1000000000, 1000000000 }, api.ErrRate},
		{func(c *api.Config) { c.MinRate, c.MaxRate, c.StartRate = 1000000001, 1000000001, 1000000001 }, api.ErrRate},
		{func(c *api.Config) { c.MinRate, c.MaxRate, c.StartRate = 1000, 999, 1000 }, api.ErrRate},
		{func(c *api.Config) { c.MinRate, c.MaxRate, c.StartRate = 999, 999, 999 }, api.ErrRate},
		{func(c *api.Config) { c.MinRate, c.MaxRate, c.StartRate = most, low, 0 }, api.ErrRate},
		{func(c *api.Config) { c.Packet, c.Burst = 64, 64 }, api.OK},
		{func(c *api.Config) { c.Packet, c.Burst = 64, 63 }, api.ErrSize},
		{func(c *api.Config) { c.Packet, c.Burst = 9000, 9000 }, api.OK},
		{func(c *api.Config) { c.Packet, c.Burst = 9000, 8999 }, api.ErrSize},
		{func(c *api.Config) { c.Packet, c.Burst = 9001, 9001 }, api.ErrSize},
		{func(c *api.Config) { c.Packet, c.Burst = 63, 63 }, api.ErrSize},
		{func(c *api.Config) { c.Packet, c.Burst = 1048577, 1048576 }, api.ErrSize},
		{func(c *api.Config) { c.MiMin, c.MiMax, c.Timeout = 1000, 1000, 1000 }, api.OK},
		{func(c *api.Config) { c.MiMin, c.MiMax, c.Timeout = 10000000, 10000000, 10000000 }, api.OK},
		{func(c *api.Config) { c.MiMin, c.MiMax, c.Timeout = 10000000, 10000000, 60000000 }, api.OK},
		{func(c *api.Config) { c.MiMin, c.MiMax, c.Timeout = 10000000, 10000000, 60000001 }, api.ErrSpan},
		{func(c *api.Config) { c.MiMin, c.MiMax, c.Timeout = 10000, 10000001, 60000000 }, api.ErrSpan},
		{func(c *api.Config) { c.MiMin, c.MiMax, c.Timeout = 10000001, 10000000, 60000000 }, api.ErrSpan},
		{func(c *api.Config) { c.MiMin, c.MiMax, c.Timeout = 10000001, 10000001, 60000000 }, api.ErrSpan},
		{func(c *api.Config) { c.MiMin, c.MiMax, c.Timeout = 999, 999, 999 }, api.ErrSpan},
		{func(c *api.Config) { c.MiMin, c.MiMax, c.Timeout = 1000, 999, 1000 }, api.ErrSpan},
		{func(c *api.Config) { c.MiMin, c.MiMax, c.Timeout = 1000, 1001, 1000 }, api.ErrSpan},
		{func(c *api.Config) { c.Eps, c.Steps = 262144, 1 }, api.OK},
		{func(c *api.Config) { c.Eps, c.Steps = 262145, 1 }, api.ErrStep},
		{func(c *api.Config) { c.Eps, c.Steps = 524288, 1 }, api.ErrStep},
		{func(c *api.Config) { c.Eps, c.Steps = 262144, 2 }, api.OK},
		{func(c *api.Config) { c.Eps, c.Steps = 174762, 3 }, api.OK}, // 524286
		{func(c *api.Config) { c.Eps, c.Steps = 174763, 3 }, api.ErrStep},
		{func(c *api.Config) { c.Eps, c.Steps = 32768, 16 }, api.OK}, // 524288
		{func(c *api.Config) { c.Eps, c.Steps = 32769, 16 }, api.ErrStep},
		{func(c *api.Config) { c.Eps, c.Steps = 1, 16 }, api.OK},
		{func(c *api.Config) { c.Eps, c.Steps = 1, 17 }, api.ErrStep},
		{func(c *api.Config) { c.Eps, c.Steps = -1, -5 }, api.ErrStep},
		{func(c *api.Config) { c.Eps, c.Steps = 1<<60+1, 16 }, api.ErrStep}, // these products wrap round
		{func(c *api.Config) { c.Eps, c.Steps = low, 2 }, api.ErrStep},
		{func(c *api.Config) { c.Eps, c.Steps = 2, low }, api.ErrStep},
		{func(c *api.Config) { c.Eps, c.Steps = low, low }, api.ErrStep},
		{func(c *api.Config) { c.Eps, c.Steps = most, most }, api.ErrStep}, // 1, as a product that wraps round
		{func(c *api.Config) { *c = api.Config{} }, api.ErrMode},
		{func(c *api.Config) { *c = api.Config{Mode: 1} }, api.ErrRate},
	} {
		c := Usual(api.Vivace)
		x.set(&c)
		if e := Check(c); e != x.want {
			t.Errorf("%d: %d", i, e)
		}
	}
}

// Of each field that is wrong, with each that is wrong as well, the error that stands first is told.
func TestCheckTellsTheFirstError(t *testing.T) { // P8.1
	for _, a := range fields() {
		for _, b := range fields() {
			for _, far := range []bool{true, false} {
				c := Usual(api.Allegro)
				*a.of(&c), *b.of(&c) = low, low
				if far {
					*a.of(&c), *b.of(&c) = most, most
				}
				if e := Check(c); e != min(a.wrong, b.wrong) {
					t.Errorf("%s and %s: %d", a.name, b.name, e)
				}
			}
		}
	}
	for mask := 1; mask < 64; mask++ {
		c := Usual(api.ProteusS)
		for i, n := range []*int{&c.Mode, &c.StartRate, &c.Ring, &c.Timeout, &c.Omega, &c.Power} {
			if mask>>i&1 == 1 {
				*n = -1
			}
		}
		if e := Check(c); e != checked(c) || e == api.OK {
			t.Errorf("mask %d: %d", mask, e)
		}
	}
}

// each calls what with all ways to give these fields numbers of values.
func each(c *api.Config, ns []*int, values []int, what func()) {
	if len(ns) == 0 {
		what()
		return
	}
	for _, n := range values {
		*ns[0] = n
		each(c, ns[1:], values, what)
	}
}

func TestCheckIsThatOfItsWords(t *testing.T) { // P8.1
	c := Usual(api.ProteusP)
	right, all := 0, 0
	look := func() {
		all++
		want := checked(c)
		if want == api.OK {
			right++
		}
		if e := Check(c); e != want {
			t.Fatalf("%+v: %d, not %d", c, e, want)
		}
	}
	each(&c, []*int{&c.Mode}, []int{low, -1, 0, 1, 2, 3, 4, 5, 6, 7, most}, look)
	c = Usual(api.ProteusP)
	each(&c, []*int{&c.MinRate, &c.MaxRate, &c.StartRate}, []int{low, -1, 0, 999, 1000, 1001, 50000, 999999999, 1000000000, 1000000001, most}, look)
	c = Usual(api.ProteusP)
	each(&c, []*int{&c.Packet, &c.Burst, &c.Ring}, []int{low, -1, 0, 1, 63, 64, 65, 4096, 4097, 8999, 9000, 9001, 1048575, 1048576, 1048577, most}, look)
	c = Usual(api.ProteusP)
	each(&c, []*int{&c.MiMin, &c.MiMax, &c.Timeout}, []int{low, -1, 0, 999, 1000, 1001, 9999999, 10000000, 10000001, 59999999, 60000000, 60000001, most}, look)
	c = Usual(api.ProteusP)
	each(&c, []*int{&c.Eps, &c.Steps, &c.Omega, &c.Widen}, []int{low, -1, 0, 1, 2, 5, 15, 16, 17, 32768, 32769, 104857, 104858, 174762, 174763, 262144, 262145, 524288, 524289, most}, look)
	c = Usual(api.ProteusP)
	each(&c, []*int{&c.Gain, &c.Knee, &c.Slope, &c.Power}, []int{low, -1, 0, 1, 524288, 524289, 1048576, 1048577, 1 << 40, 1<<40 + 1, most}, look)
	c = Usual(api.ProteusP)
	each(&c, []*int{&c.Lag, &c.Loss, &c.Jitter, &c.Cut}, []int{low, -1, 0, 1, 1000000000, 1000000001, 1 << 40, 1<<40 + 1, most}, look)
	if right < 1000 || all-right < 1000 {
		t.Errorf("%d of %d are right: too few of one kind are looked at", right, all)
	}
}

func TestUsual(t *testing.T) { // P8.2
	want := []int{10000, 125000000, 50000, 1500, 15000, 1024, 10000, 100000, 3000000, 10486, 5, 52429, 52429, 1048576, 52429, 104857600, 943718, 943718400, 11927552, 1572864000, 1000000}
	for _, mode := range []int{low, -1, 0, 1, 2, 3, 4, 5, 6, 1 << 32, most} {
		c := Usual(mode)
		var told []int
		for _, f := range fields()[1:] {
			told = append(told, *f.of(&c))
		}
		if c.Mode != mode || !slices.Equal(told, want) {
			t.Errorf("Usual(%d) is %+v", mode, c)
		}
	}
}

// bound is P8.3's Bound, word for word.
func bound(c api.Config, rate int) int {
	if rate < c.MinRate {
		return c.MinRate
	} else if rate > c.MaxRate {
		return c.MaxRate
	} else {
		return rate
	}
}

func TestBound(t *testing.T) { // P8.3
	for i, x := range []struct{ least, greatest, rate, want int }{
		{10000, 125000000, 9999, 10000},
		{10000, 125000000, 10000, 10000},
		{10000, 125000000, 10001, 10001},
		{10000, 125000000, 124999999, 124999999},
		{10000, 125000000, 125000000, 125000000},
		{10000, 125000000, 125000001, 125000000},
		{10000, 125000000, low, 10000},
		{10000, 125000000, -10001, 10000},
		{10000, 125000000, most, 125000000},
		{7, 7, 6, 7},
		{7, 7, 8, 7},
		{20000, 10000, 5000, 20000}, // both are true of this one, and of the next: the least is told first
		{20000, 10000, 15000, 20000},
		{20000, 10000, 20000, 10000},
		{20000, 10000, 25000, 10000},
		{low, most, low, low},
		{low, most, most, most},
		{-10, -5, 0, -5},
	} {
		c := api.Config{MinRate: x.least, MaxRate: x.greatest}
		if rate := Bound(c, x.rate); rate != x.want {
			t.Errorf("%d: %d", i, rate)
		}
	}
	for _, c := range bounds() {
		for _, n := range numbers() {
			if rate := Bound(c, n); rate != bound(c, n) {
				t.Errorf("%d to %d: Bound of %d is %d", c.MinRate, c.MaxRate, n, rate)
			}
		}
	}
}

// stepped is P8.3's Step, word for word.
func stepped(c api.Config, rate, part int, up bool) int {
	if part < 0 {
		part = 0
	} else if part > 1048576 {
		part = 1048576
	}
	if up {
		return bound(c, fix.Scale(bound(c, rate), 1048576+part, 1048576))
	}
	return bound(c, fix.Scale(bound(c, rate), 1048576-part, 1048576))
}

func TestStep(t *testing.T) { // P8.3
	c := Usual(api.Vivace)
	for i, x := range []struct {
		rate, part int
		up         bool
		want       int
	}{
		{100000, 10486, true, 101000}, // the chapter's example
		{100000, 10486, false, 99000},
		{100000, 0, true, 100000},
		{100000, 0, false, 100000},
		{100000, -1, true, 100000}, // parts beyond their ends
		{100000, -1, false, 100000},
		{100000, low, true, 100000},
		{100000, low, false, 100000},
		{100000, one, true, 200000},
		{100000, one - 1, true, 200000}, // 199999.9, to the nearest
		{100000, one + 1, true, 200000},
		{100000, most, true, 200000},
		{100000, one, false, 10000}, // 0, bounded
		{100000, most, false, 10000},
		{100000, one / 2, false, 50000},
		{10001, one / 2, true, 15002}, // a half is rounded up
		{20001, one / 2, false, 10001},
		{20003, one / 4, true, 25004}, // 25003.75
		{20001, one / 4, true, 25001}, // 25001.25
		{5, 10486, true, 10100},       // from the bound on, not from 5
		{5, 10486, false, 10000},
		{low, 10486, true, 10100},
		{most, 10486, true, 125000000},
		{most, one / 2, false, 62500000},
		{124000000, 10486, true, 125000000},
		{10050, 10486, false, 10000},
	} {
		if rate := Step(c, x.rate, x.part, x.up); rate != x.want {
			t.Errorf("%d: %d", i, rate)
		}
	}
	for _, c := range bounds() {
		for _, rate := range numbers() {
			for _, part := range numbers() {
				for _, up := range []bool{true, false} {
					if got := Step(c, rate, part, up); got != stepped(c, rate, part, up) {
						t.Fatalf("%d to %d: Step of %d by %d, up %t, is %d", c.MinRate, c.MaxRate, rate, part, up, got)
					}
				}
			}
		}
	}
}

func TestBytes(t *testing.T) { // P8.4
	for i, x := range []struct{ rate, span, want int }{
		{1500000, 1000, 1500}, // the chapter's example
		{1000000, 7, 7},
		{1, 1000000, 1},
		{1, 499999, 0},
		{1, 500000, 1}, // a half is rounded up
		{1, 1499999, 1},
		{3, 500000, 2},
		{-1, 500000, -1}, // below 0 away from it
		{1, -500000, -1},
		{-1, -500000, 1},
		{-1, 499999, 0},
		{0, most, 0},
		{most, 0, 0},
		{1000000000, 60000000, 60000000000},
		{top, 1000000, top},
		{top, 1000001, top},
		{-top, 1000001, -top},
		{top - 1, 1000000, top - 1},
		{most, 1000000, top}, // a rate is a fixed number there
		{most, 500000, top / 2},
		{low, 500000, -top / 2},
		{most, most, top},
		{low, most, -top},
		{low, low, top},
		{1, most, 9223372036855}, // a span is any int
		{1, low, -9223372036855},
		{500000, most, top},
		{500000, most - 1, top - 1},
		{500000, top + 2, top/2 + 1},
	} {
		if bytes := Bytes(x.rate, x.span); bytes != x.want {
			t.Errorf("%d: Bytes(%d, %d) is %d", i, x.rate, x.span, bytes)
		}
	}
	for _, rate := range numbers() {
		for _, span := range numbers() {
			if bytes := Bytes(rate, span); bytes != fix.Scale(rate, span, 1000000) {
				t.Fatalf("Bytes(%d, %d) is %d", rate, span, bytes)
			}
		}
	}
}

func TestSpan(t *testing.T) { // P8.4
	for i, x := range []struct{ rate, bytes, want int }{
		{1500000, 1500, 1000}, // the chapter's example
		{1500000, 1501, 1001}, // 1000.67
		{1500000, 1499, 1000}, // 999.33
		{1500000, 1, 1},
		{1, 1, 1000000},
		{3, 1, 333334},
		{3, 2, 666667},
		{3, 3, 1000000},
		{1000000, 7, 7},
		{1000001, 7, 7},
		{999999, 7, 8},
		{1, 0, 0},
		{0, 0, 0}, // no bytes, ahead of no rate
		{-1, 0, 0},
		{0, -1, 0},
		{-1, -1, 0},
		{low, low, 0},
		{1000, -7, 0},
		{1000, low, 0},
		{0, 1, top},
		{-1, 1, top},
		{low, most, top},
		{most, 1, 1},
		{most, most, 1000000},
		{most - 1, most, 1000001},
		{most, most - 1, 1000000},
		{top, top, 1000000},
		{1, top / 1000000, 4611686018427000000}, // the most bytes whose span is below Top
		{1, top/1000000 + 1, top},
		{1000000, top - 1, top - 1},
		{1000000, top, top},
		{1000000, top + 1, top},
		{999999, top, top},
		{1, most, top},
		{1, 1 << 50, top}, // products of more than 64 bits, that leave little when they wrap round
		{1 << 50, 1 << 50, 1000000},
		{1 << 45, 1<<50 + 1, 32000001},
	} {
		if span := Span(x.rate, x.bytes); span != x.want {
			t.Errorf("%d: Span(%d, %d) is %d", i, x.rate, x.bytes, span)
		}
	}
}

// goes tells whether so many bytes go in a span, none of them rounded.
func goes(rate, bytes, span int) bool {
	product := new(big.Int).Mul(bigOf(rate), bigOf(span))
	return product.Cmp(new(big.Int).Mul(bigOf(bytes), bigOf(1000000))) >= 0
}

func TestSpanIsTheLeast(t *testing.T) { // P8.4
	for _, rate := range numbers() {
		for _, bytes := range numbers() {
			span := Span(rate, bytes)
			switch {
			case bytes <= 0:
				if span != 0 {
					t.Fatalf("Span(%d, %d) is %d", rate, bytes, span)
				}
			case rate <= 0 || !goes(rate, bytes, top):
				if span != top {
					t.Fatalf("Span(%d, %d) is %d", rate, bytes, span)
				}
			case span < 1 || span > top || !goes(rate, bytes, span) || goes(rate, bytes, span-1):
				t.Fatalf("Span(%d, %d) is %d", rate, bytes, span)
			}
		}
	}
}

func TestUsualConfigsAreRight(t *testing.T) { // P8.5
	for _, mode := range []int{api.Allegro, api.Vivace, api.ProteusP, api.ProteusS, api.Hybrid} {
		if e := Check(Usual(mode)); e != api.OK {
			t.Errorf("mode %d: %d", mode, e)
		}
	}
	for _, mode := range []int{low, -1, 0, 6, most} {
		if e := Check(Usual(mode)); e != api.ErrMode {
			t.Errorf("mode %d: %d", mode, e)
		}
	}
}

// beyond tells whether two rates are farther apart than a part of the first, and half a byte.
func beyond(rate, other, part int) bool {
	apart := new(big.Int).Abs(new(big.Int).Sub(bigOf(other), bigOf(rate)))
	may := new(big.Int).Mul(bigOf(rate), bigOf(part))
	return apart.Mul(apart, bigOf(2*one)).Cmp(may.Lsh(may, 1).Add(may, bigOf(one))) > 0
}

func TestStepsOfRightConfigs(t *testing.T) { // P8.5
	looked := 0
	for _, c := range bounds() {
		c.StartRate = c.MinRate
		if Check(c) != api.OK {
			continue
		}
		looked++
		for _, rate := range numbers() {
			from := Bound(c, rate)
			if up, down := Step(c, rate, 0, true), Step(c, rate, 0, false); up != from || down != from {
				t.Errorf("steps of nothing from %d: %d, %d", from, up, down)
			}
			for _, part := range numbers() {
				up, down := Step(c, rate, part, true), Step(c, rate, part, false)
				if up < from || down > from || up > c.MaxRate || down < c.MinRate {
					t.Fatalf("from %d by %d: %d, %d", from, part, up, down)
				}
				if part := min(max(part, 0), one); beyond(from, up, part) || beyond(from, down, part) {
					t.Fatalf("from %d by %d: %d, %d", from, part, up, down)
				}
			}
		}
	}
	if looked < 4 {
		t.Errorf("%d right configs", looked)
	}
}
