package spans

import (
	"math"
	"slices"
	"testing"

	"pacemaker/api"
	"pacemaker/climb"
	"pacemaker/config"
	"pacemaker/draw"
	"pacemaker/modes"
	"pacemaker/order"
	"pacemaker/steer"
)

const (
	most     = math.MaxInt
	least    = math.MinInt
	lastTime = 1099511627776
)

func tape(l ...uint64) api.Source { return draw.Tape(l) }

// same tells whether two sources are at the same place, and will draw the same.
func same(a, b api.Source) bool {
	return a.Kind == b.Kind && a.State == b.State && a.Inc == b.Inc && a.At == b.At && slices.Equal(a.Tape, b.Tape)
}

// nothing tells whether a source is that of an error.
func nothing(s api.Source) bool { return same(s, api.Source{}) }

// lasting is a usual config, but with intervals from low to high.
func lasting(mode, low, high int) api.Config {
	c := config.Usual(mode)
	c.MiMin, c.MiMax = low, high
	return c
}

// made is the pilot that a config begins with.
func made(t *testing.T, c api.Config) api.Pilot {
	t.Helper()
	x, wrong := modes.New(c)
	if wrong != api.OK {
		t.Fatalf("%+v: %d", c, wrong)
	}
	return x
}

// trying is a pilot that begins to try a rate, up and down: of Allegro in two of each, with the first and the last up, of others once, with down first.
func trying(t *testing.T, c api.Config, mode, rate, gen int) api.Pilot {
	t.Helper()
	x := api.Pilot{Mode: mode, Gen: gen}
	if mode == api.Allegro {
		way, _ := order.Four(2)
		x.S = api.Steer{Phase: api.PhaseTry, X: api.Contest{Base: rate, Step: 1, Order: way}, Rate: rate, Step: 1}
	} else {
		x.C, _ = climb.From(c, rate, tape(0))
	}
	if !modes.Is(x) {
		t.Fatalf("%+v is not right", x)
	}
	return x
}

// isTimeOf is what chapter 9 calls a time, word for word.
func isTimeOf(at int) bool { return at >= 0 && at <= 1099511627776 }

// lengthOf is P26.1 word for word.
func lengthOf(c api.Config, s api.Source) (int, api.Source) {
	return draw.Between(s, c.MiMin, c.MiMax)
}

// nextOf is P26.2 word for word.
func nextOf(c api.Config, x api.Pilot, at int, s api.Source) (api.Plan, api.Pilot, api.Source, api.Errno) {
	if wrong := config.Check(c); wrong != api.OK {
		return api.Plan{}, api.Pilot{}, api.Source{}, wrong
	}
	if !modes.Is(x) {
		return api.Plan{}, api.Pilot{}, api.Source{}, api.ErrArg
	}
	n, u := lengthOf(c, s)
	if !isTimeOf(at) || !isTimeOf(at+n) {
		return api.Plan{}, api.Pilot{}, api.Source{}, api.ErrSpan
	}
	var p api.Plan
	p.From, p.End, p.Gen = at, at+n, x.Gen
	p.Rate, p.Wanted, x = modes.Ask(c, x)
	return p, x, u, api.OK
}

// longerOf and countsOf are P26.3 word for word.
func longerOf(c api.Config, p api.Plan, s api.Source) (api.Plan, api.Source, api.Errno) {
	if wrong := config.Check(c); wrong != api.OK {
		return api.Plan{}, api.Source{}, wrong
	}
	n, u := lengthOf(c, s)
	if !isTimeOf(p.End) || !isTimeOf(p.End+n) {
		return api.Plan{}, api.Source{}, api.ErrSpan
	}
	p.End += n
	return p, u, api.OK
}

func countsOf(p api.Plan, x api.Pilot) bool {
	if !p.Wanted {
		return false
	}
	return p.Gen == x.Gen
}

// rowOf is P26.4 word for word.
func rowOf(c api.Config, x api.Pilot, at, many int, s api.Source) []api.Plan {
	var l []api.Plan
	for i := 0; i < many && i < 100; i++ {
		p, y, u, wrong := nextOf(c, x, at, s)
		if wrong != api.OK {
			break
		}
		l = append(l, p)
		x, at, s = y, p.End, u
	}
	return l
}

// edges are 0, the ends of times, spans and ints, what is beside them, and some others.
func edges() []int {
	l := []int{least, least + 1, most - 1, most}
	for _, n := range []int{0, 5, 1000, 10000, 100000, 10000000, 60000000, 4294967295, 1 << 39, lastTime - 100000, lastTime - 10000, lastTime - 1000, lastTime, api.Top} {
		for beside := -1; beside <= 1; beside++ {
			l = append(l, n+beside, -n+beside)
		}
	}
	slices.Sort(l)
	return slices.Compact(l)
}

// random makes the same numbers at each run.
type random uint64

func (r *random) below(n int) int {
	*r = *r*6364136223846793005 + 1442695040888963407
	return int(uint64(*r)>>33) % n
}

// size is any int that is not below 0, small or great.
func (r *random) size() int {
	return (r.below(1<<31)<<32 | r.below(1<<31)<<1 | r.below(2)) >> r.below(63)
}

// any is any int, small or great, of both signs.
func (r *random) any() int {
	n := r.size()
	if r.flip() {
		return ^n
	}
	return n
}

// near is one of few numbers, so that some are the same.
func (r *random) near() int { return r.below(7) - 3 }

// flip is either.
func (r *random) flip() bool { return r.below(2) == 0 }

// time is one, near an end or anywhere, or now and then any int.
func (r *random) time() int {
	switch r.below(8) {
	case 0:
		return r.any()
	case 1:
		return r.near()
	case 2, 3:
		return lastTime + r.near() - r.size()>>r.below(63)%10000001
	}
	return r.size() % (lastTime + 1)
}

// source is one of any kind.
func (r *random) source() api.Source {
	switch r.below(5) {
	case 0:
		return tape(uint64(r.size()), uint64(r.size()))
	case 1:
		return api.Source{Kind: r.near() + 4, At: r.near()}
	case 2:
		return api.Source{Kind: api.SourceTape, Tape: []uint64{uint64(r.size()), uint64(r.size()), uint64(r.size())}, At: r.near()}
	}
	return draw.Pcg(uint64(r.size()), uint64(r.size()))
}

// right is a right config with any rates, steps and spans.
func (r *random) right() api.Config {
	c := config.Usual(1 + r.below(5))
	c.MinRate = 1000 + r.below(1000000000-999)>>r.below(30)
	c.MaxRate = c.MinRate + r.below(1000000001-c.MinRate)>>r.below(30)
	c.StartRate = c.MinRate + r.below(c.MaxRate-c.MinRate+1)>>r.below(30)
	c.MiMin = 1000 + r.below(10000000-999)>>r.below(24)
	c.MiMax = c.MiMin + r.below(10000001-c.MiMin)>>r.below(24)
	c.Timeout = c.MiMax + r.below(60000001-c.MiMax)>>r.below(26)
	c.Steps = 1 + r.below(16)
	c.Eps = 1 + r.below(min(262144, 524288/c.Steps))>>r.below(18)
	return c
}

// config is a right one, or one with something wrong.
func (r *random) config() api.Config {
	c := r.right()
	switch r.below(16) {
	case 0:
		c.Mode = r.any()
	case 1:
		c.MaxRate = r.any()
	case 2:
		c.Ring = r.any()
	case 3:
		c.MiMin = r.any()
	case 4:
		c.MiMax = r.any()
	case 5:
		c.Eps = r.any()
	case 6:
		c.Cut = r.any()
	case 7:
		return api.Config{}
	}
	return c
}

// gen is how often rounds may have been begun anew.
func (r *random) gen() int {
	if r.below(4) == 0 {
		return most - r.below(2)
	}
	return r.size()
}

// pilot is a right one that a config leads to by some asks, tells, skips and switches.
func (r *random) pilot(t *testing.T) api.Pilot {
	t.Helper()
	c, s := r.right(), r.source()
	x := made(t, c)
	for range r.below(12) {
		y, u, wrong := x, s, api.OK
		switch r.below(8) {
		case 0:
			y, wrong = modes.Skip(x)
		case 1:
			y, u, wrong = modes.Switch(c, x, 1+r.below(5), s)
		case 2, 3:
			y, u, wrong = modes.Tell(c, x, api.Stats{Rate: r.below(1000000), Good: r.below(1000000), Loss: r.below(10000)}, s)
		default:
			_, _, y = modes.Ask(c, x)
		}
		if wrong == api.OK {
			x, s = y, u
		}
	}
	if r.flip() {
		x.Gen = r.gen()
	}
	return x
}

// loose is a pilot that may be wrong in any way.
func (r *random) loose(t *testing.T) api.Pilot {
	t.Helper()
	x := r.pilot(t)
	switch r.below(16) {
	case 0:
		x.Mode = r.near() + 3
	case 1:
		x.Gen = r.any()
	case 2:
		x.S.Asked, x.C.Asked = r.near(), r.near()
	case 3:
		x.S.Phase, x.C.Phase = r.near(), r.near()
	case 4:
		return api.Pilot{}
	}
	return x
}

// plan is any.
func (r *random) plan() api.Plan {
	return api.Plan{From: r.time(), End: r.time(), Rate: r.any(), Wanted: r.flip(), Gen: r.gen()}
}

func TestLength(t *testing.T) { // P26.1
	for _, x := range []struct {
		low, high int
		s         api.Source
		want, at  int
	}{
		{10000, 100000, tape(0), 10000, 1},
		{10000, 100000, tape(7, 8), 10007, 1},
		{10000, 100000, tape(90000), 100000, 1}, // both ends are among them
		{10000, 100000, tape(90001), 10000, 1},
		{10000, 100000, tape(90002), 10001, 1},
		{10000, 100000, tape(1<<32 + 3), 10003, 1},
		{10000, 100000, tape(), 10000, 0},
		{10000, 100000, api.Source{}, 10000, 0},
		{10000, 100000, api.Source{Kind: 3, At: 4}, 10000, 4},
		{1000, 1001, tape(1<<32 - 1), 1001, 1},
		{1000, 10000000, tape(9999000), 10000000, 1},
		{1000, 10000000, tape(9999001), 1000, 1},
		{5000, 5000, tape(9), 5000, 0}, // nothing is drawn of one alone
		// It does not ask whether the config is right.
		{5000, 4999, tape(9), 5000, 0},
		{0, 0, tape(9), 0, 0},
		{-5, 5, tape(9), 4, 1},
		{-5, -8, tape(9), -5, 0},
		{0, 4294967294, tape(1<<32 - 1), 0, 1},
		{0, 4294967294, tape(1<<32 - 2), 4294967294, 1},
		{0, 4294967295, tape(9), 0, 0},
		{least, most, tape(9), least, 0},
		{most, least, tape(9), most, 0},
		{most - 3, most, tape(9), most - 2, 1},
	} {
		want := x.s
		want.At = x.at
		if n, s := Length(lasting(api.Vivace, x.low, x.high), x.s); n != x.want || !same(s, want) {
			t.Errorf("%+v: %d, %+v", x, n, s)
		}
		if n, s := Length(api.Config{MiMin: x.low, MiMax: x.high}, x.s); n != x.want || !same(s, want) {
			t.Errorf("%+v: %d, %+v", x, n, s)
		}
	}
	// A generator's draws lead to lengths one by one: 2707161783 and 2068313097 are its first.
	c, s := lasting(api.Vivace, 1000, 1999), draw.Pcg(42, 54)
	for _, want := range []int{1783, 1097} {
		var n int
		if n, s = Length(c, s); n != want {
			t.Errorf("%d, not %d", n, want)
		}
	}
}

func TestLengthWordForWord(t *testing.T) { // P26.1
	check := func(c api.Config, s api.Source) {
		t.Helper()
		n, u := Length(c, s)
		if want, then := lengthOf(c, s); n != want || !same(u, then) {
			t.Fatalf("%d, %d, %+v: %d, %+v, not %d, %+v", c.MiMin, c.MiMax, s, n, u, want, then)
		}
	}
	for _, low := range edges() {
		for _, high := range edges() {
			check(lasting(api.Allegro, low, high), tape(1<<32-1, 5))
			check(lasting(api.Hybrid, low, high), api.Source{})
		}
	}
	r := random(1)
	for range 50000 {
		check(r.config(), r.source())
		check(lasting(r.near(), r.any(), r.any()), r.source())
	}
}

func TestLengthsAreAllOfThem(t *testing.T) { // P26.1
	c, s := lasting(api.Vivace, 1000, 1009), draw.Pcg(42, 54)
	times := map[int]int{}
	for range 5000 {
		var n int
		n, s = Length(c, s)
		times[n]++
	}
	for n := 1000; n < 1010; n++ {
		if times[n] < 400 {
			t.Errorf("%d: %d", n, times[n])
		}
	}
	if len(times) != 10 {
		t.Errorf("%v", times)
	}
}

func TestNext(t *testing.T) { // P26.2
	c := config.Usual(api.Allegro)
	started := made(t, c)
	asked := started
	asked.S.Asked = 1
	turned := started
	turned.Gen = 4
	turnedAsked := turned
	turnedAsked.S.Asked = 1
	contest := trying(t, c, api.Allegro, 100000, 7)
	contestAsked := contest
	contestAsked.S.Asked = 1
	for _, x := range []struct {
		x    api.Pilot
		at   int
		draw uint64
		want api.Plan
		then api.Pilot
	}{
		{started, 100, 0, api.Plan{From: 100, End: 10100, Rate: 50000, Wanted: true}, asked},
		{started, 0, 0, api.Plan{From: 0, End: 10000, Rate: 50000, Wanted: true}, asked},
		{started, 0, 90000, api.Plan{From: 0, End: 100000, Rate: 50000, Wanted: true}, asked},
		{started, 0, 90001, api.Plan{From: 0, End: 10000, Rate: 50000, Wanted: true}, asked},
		{started, lastTime - 10000, 0, api.Plan{From: lastTime - 10000, End: lastTime, Rate: 50000, Wanted: true}, asked},
		{started, lastTime - 100000, 90000, api.Plan{From: lastTime - 100000, End: lastTime, Rate: 50000, Wanted: true}, asked},
		{asked, 10100, 7, api.Plan{From: 10100, End: 20107, Rate: 50000}, asked},
		{turned, 5, 1, api.Plan{From: 5, End: 10006, Rate: 50000, Wanted: true, Gen: 4}, turnedAsked},
		{turnedAsked, 5, 1, api.Plan{From: 5, End: 10006, Rate: 50000, Gen: 4}, turnedAsked},
		{contest, 5, 1, api.Plan{From: 5, End: 10006, Rate: 101000, Wanted: true, Gen: 7}, contestAsked},
	} {
		for _, other := range []int{1, 2, 5} { // it is the pilot's mode that counts
			c.Mode = other
			p, y, s, wrong := Next(c, x.x, x.at, tape(x.draw, 3))
			if p != x.want || y != x.then || !same(s, api.Source{Kind: api.SourceTape, Tape: []uint64{x.draw, 3}, At: 1}) || wrong != api.OK {
				t.Errorf("%+v: %+v, %+v, %+v, %d", x, p, y, s, wrong)
			}
		}
	}
}

func TestNextOfAllModes(t *testing.T) { // P26.2
	for _, mode := range []int{1, 2, 3, 4, 5} {
		c := lasting(mode, 2000, 2000)
		x, s := made(t, c), tape(9)
		p, y, u, wrong := Next(c, x, 7, s)
		if p != (api.Plan{From: 7, End: 2007, Rate: 50000, Wanted: true}) || y.S.Asked+y.C.Asked != 1 || y.Mode != mode || !same(s, u) || wrong != api.OK {
			t.Errorf("%d: %+v, %+v, %+v, %d", mode, p, y, u, wrong)
		}
		x = trying(t, c, mode, 100000, most)
		rates, asked := []int{99000, 101000}, 2
		if mode == api.Allegro {
			rates, asked = []int{101000, 99000, 99000, 101000}, 4
		}
		for i, rate := range append(rates, 100000, 100000) {
			p, x, s, wrong = Next(c, x, 7, s)
			if p != (api.Plan{From: 7, End: 2007, Rate: rate, Wanted: i < asked, Gen: most}) || x.S.Asked+x.C.Asked != min(i+1, asked) || wrong != api.OK {
				t.Errorf("%d: %d: %+v, %+v, %d", mode, i, p, x, wrong)
			}
		}
	}
}

func TestNextWhatIsRefused(t *testing.T) { // P26.2
	c := lasting(api.Vivace, 10000, 100000)
	x := made(t, c)
	bad := func(change func(c *api.Config)) api.Config {
		c := c
		change(&c)
		return c
	}
	astray := x
	astray.C.Asked = 2
	both := x
	both.S.Phase = api.PhaseStart
	behind := x
	behind.Gen = -1
	for _, s := range []struct {
		c    api.Config
		x    api.Pilot
		at   int
		draw uint64
		want api.Errno
	}{
		{bad(func(c *api.Config) { c.Mode = 6 }), x, 0, 0, api.ErrMode},
		{bad(func(c *api.Config) { c.MinRate = 999 }), x, 0, 0, api.ErrRate},
		{bad(func(c *api.Config) { c.Ring = 0 }), x, 0, 0, api.ErrSize},
		{bad(func(c *api.Config) { c.MiMin = 999 }), x, 0, 0, api.ErrSpan},
		{bad(func(c *api.Config) { c.MiMax = 9999 }), x, 0, 0, api.ErrSpan},
		{bad(func(c *api.Config) { c.Timeout = 99999 }), x, 0, 0, api.ErrSpan},
		{bad(func(c *api.Config) { c.Eps = 0 }), x, 0, 0, api.ErrStep},
		{bad(func(c *api.Config) { c.Cut = -1 }), x, 0, 0, api.ErrGain},
		{api.Config{}, x, 0, 0, api.ErrMode},
		{c, api.Pilot{}, 0, 0, api.ErrArg},
		{c, astray, 0, 0, api.ErrArg},
		{c, both, 0, 0, api.ErrArg},
		{c, behind, 0, 0, api.ErrArg},
		{c, x, -1, 0, api.ErrSpan},
		{c, x, -10000, 0, api.ErrSpan},
		{c, x, -10000, 90000, api.ErrSpan},
		{c, x, least, 0, api.ErrSpan},
		{c, x, lastTime - 9999, 0, api.ErrSpan},
		{c, x, lastTime - 10000, 1, api.ErrSpan},
		{c, x, lastTime - 99999, 90000, api.ErrSpan},
		{c, x, lastTime, 0, api.ErrSpan},
		{c, x, lastTime + 1, 0, api.ErrSpan},
		{c, x, most, 0, api.ErrSpan},
		{c, x, most - 9999, 0, api.ErrSpan},
		// Of several the one that is named first counts.
		{bad(func(c *api.Config) { c.Ring = 0 }), api.Pilot{}, -1, 0, api.ErrSize},
		{bad(func(c *api.Config) { c.Ring = 0 }), x, -1, 0, api.ErrSize},
		{bad(func(c *api.Config) { c.MiMin = 0 }), api.Pilot{}, 0, 0, api.ErrSpan},
		{bad(func(c *api.Config) { c.Cut = -1 }), api.Pilot{}, lastTime, 0, api.ErrGain},
		{c, api.Pilot{}, -1, 0, api.ErrArg},
		{c, astray, lastTime, 0, api.ErrArg},
	} {
		p, y, u, wrong := Next(s.c, s.x, s.at, tape(s.draw))
		if p != (api.Plan{}) || y != (api.Pilot{}) || !nothing(u) || wrong != s.want {
			t.Errorf("%+v: %+v, %+v, %+v, %d", s, p, y, u, wrong)
		}
		if l := Row(s.c, s.x, s.at, 3, tape(s.draw)); len(l) != 0 {
			t.Errorf("%+v: %+v", s, l)
		}
	}
}

// nextAsAsked holds a Next against P26.2.
func nextAsAsked(t *testing.T, c api.Config, x api.Pilot, at int, s api.Source) api.Errno {
	t.Helper()
	p, y, u, wrong := Next(c, x, at, s)
	want, then, behind, code := nextOf(c, x, at, s)
	if p != want || y != then || !same(u, behind) || wrong != code {
		t.Fatalf("%+v, %+v, %d, %+v: %+v, %+v, %+v, %d, not %+v, %+v, %+v, %d", c, x, at, s, p, y, u, wrong, want, then, behind, code)
	}
	if wrong == api.OK && !modes.Is(y) {
		t.Fatalf("%+v, %+v: %+v is not right", c, x, y)
	}
	return wrong
}

func TestNextWordForWord(t *testing.T) { // P26.2
	for _, at := range edges() {
		for _, high := range []int{999, 1000, 10000, 10000000, 10000001} {
			for _, mode := range []int{1, 2, 5} {
				c := lasting(mode, 1000, high)
				c.Timeout = 20000000
				for _, s := range []api.Source{tape(0), tape(9000), tape(9999000), tape(1<<32 - 1), {}} {
					nextAsAsked(t, c, trying(t, c, mode, 100000, 3), at, s)
					nextAsAsked(t, c, api.Pilot{}, at, s)
				}
			}
		}
	}
	r := random(2)
	codes := map[api.Errno]int{}
	for range 50000 {
		codes[nextAsAsked(t, r.config(), r.loose(t), r.time(), r.source())]++
	}
	for _, code := range []api.Errno{api.OK, api.ErrArg, api.ErrMode, api.ErrRate, api.ErrSize, api.ErrSpan, api.ErrStep, api.ErrGain} {
		if codes[code] < 500 {
			t.Errorf("%d: %d", code, codes[code])
		}
	}
}

func TestLonger(t *testing.T) { // P26.3
	c := lasting(api.ProteusS, 10000, 100000)
	for _, x := range []struct {
		p     api.Plan
		draw  uint64
		end   int
		wrong api.Errno
	}{
		{api.Plan{From: 100, End: 10100, Rate: 50000, Wanted: true}, 5, 20105, api.OK},
		{api.Plan{From: 100, End: 10100, Rate: 50000, Wanted: true, Gen: 3}, 0, 20100, api.OK},
		{api.Plan{From: 100, End: 10100, Rate: 50000}, 90000, 110100, api.OK},
		{api.Plan{}, 0, 10000, api.OK},
		// Its End alone is asked for.
		{api.Plan{From: -7, End: 1, Rate: -9, Gen: -3}, 90001, 10001, api.OK},
		{api.Plan{From: most, End: 0, Rate: least, Wanted: true, Gen: most}, 1, 10001, api.OK},
		{api.Plan{From: 5, End: lastTime - 10000}, 0, lastTime, api.OK},
		{api.Plan{From: 5, End: lastTime - 10001}, 1, lastTime, api.OK},
		{api.Plan{From: 5, End: lastTime - 100000}, 90000, lastTime, api.OK},
		{api.Plan{From: 5, End: lastTime - 9999}, 0, 0, api.ErrSpan},
		{api.Plan{From: 5, End: lastTime - 10000}, 1, 0, api.ErrSpan},
		{api.Plan{From: 5, End: lastTime - 99999}, 90000, 0, api.ErrSpan},
		{api.Plan{From: 5, End: lastTime}, 0, 0, api.ErrSpan},
		{api.Plan{From: 5, End: lastTime + 1}, 0, 0, api.ErrSpan},
		{api.Plan{From: 5, End: most}, 0, 0, api.ErrSpan},
		{api.Plan{From: 5, End: most - 9999}, 0, 0, api.ErrSpan},
		{api.Plan{From: 5, End: -1}, 0, 0, api.ErrSpan},
		{api.Plan{From: 5, End: -10000}, 0, 0, api.ErrSpan},
		{api.Plan{From: 5, End: least}, 0, 0, api.ErrSpan},
	} {
		q, s, wrong := Longer(c, x.p, tape(x.draw, 3))
		want, at := x.p, 1
		want.End = x.end
		if x.wrong != api.OK {
			want, at = api.Plan{}, 0
		}
		if q != want || s.At != at || wrong != x.wrong || wrong != api.OK && !nothing(s) {
			t.Errorf("%+v: %+v, %+v, %d", x, q, s, wrong)
		}
		for _, bad := range []struct {
			c     api.Config
			wrong api.Errno
		}{{lasting(0, 10000, 100000), api.ErrMode}, {lasting(2, 999, 100000), api.ErrSpan}, {lasting(2, 10000, 9999), api.ErrSpan}, {api.Config{Mode: 2}, api.ErrRate}, {api.Config{}, api.ErrMode}} {
			if q, s, wrong := Longer(bad.c, x.p, tape(x.draw, 3)); q != (api.Plan{}) || !nothing(s) || wrong != bad.wrong {
				t.Errorf("%+v, %+v: %+v, %+v, %d", bad.c, x, q, s, wrong)
			}
		}
	}
}

func TestLongerWordForWord(t *testing.T) { // P26.3
	check := func(c api.Config, p api.Plan, s api.Source) api.Errno {
		t.Helper()
		q, u, wrong := Longer(c, p, s)
		if want, then, code := longerOf(c, p, s); q != want || !same(u, then) || wrong != code {
			t.Fatalf("%+v, %+v, %+v: %+v, %+v, %d, not %+v, %+v, %d", c, p, s, q, u, wrong, want, then, code)
		}
		return wrong
	}
	for _, end := range edges() {
		for _, from := range edges() {
			for _, s := range []api.Source{tape(0), tape(90000), {}} {
				check(lasting(api.Vivace, 10000, 100000), api.Plan{From: from, End: end, Rate: 7, Wanted: true, Gen: 9}, s)
			}
		}
	}
	r := random(3)
	codes := map[api.Errno]int{}
	for range 50000 {
		codes[check(r.config(), r.plan(), r.source())]++
	}
	for _, code := range []api.Errno{api.OK, api.ErrMode, api.ErrRate, api.ErrSize, api.ErrSpan, api.ErrStep, api.ErrGain} {
		if codes[code] < 500 {
			t.Errorf("%d: %d", code, codes[code])
		}
	}
}

func TestCounts(t *testing.T) { // P26.3
	for _, gen := range edges() {
		for _, of := range edges() {
			for _, wanted := range []bool{true, false} {
				// Of neither anything else is asked.
				for _, p := range []api.Plan{{}, {From: 5, End: 10005, Rate: 50000}, {From: -1, End: -1, Rate: -1}} {
					p.Wanted, p.Gen = wanted, gen
					for _, x := range []api.Pilot{{Gen: of}, {Mode: 2, Gen: of, C: api.Climb{Phase: 1, Rate: 7}}} {
						if Counts(p, x) != (wanted && gen == of) {
							t.Errorf("%+v, %+v: %t", p, x, Counts(p, x))
						}
					}
				}
			}
		}
	}
	r := random(4)
	for range 20000 {
		p, x := r.plan(), r.loose(t)
		if r.flip() {
			p.Gen = x.Gen
		}
		if Counts(p, x) != countsOf(p, x) {
			t.Fatalf("%+v, %+v: %t", p, x, Counts(p, x))
		}
	}
}

func TestWhatIsBegunAnewCounts(t *testing.T) { // P26.2, P26.3
	c := lasting(api.Vivace, 1000, 1000)
	x := made(t, c)
	p, asked, _, _ := Next(c, x, 0, api.Source{})
	if !Counts(p, x) || !Counts(p, asked) {
		t.Errorf("%+v, %+v", p, asked)
	}
	// What waits for its worth is not wanted twice.
	again, _, _, _ := Next(c, asked, p.End, api.Source{})
	if Counts(again, asked) {
		t.Errorf("%+v", again)
	}
	// One that is asked anew counts, and the one ahead of it does not any more.
	skipped, wrong := modes.Skip(asked)
	if q, y, _, _ := Next(c, skipped, p.End, api.Source{}); wrong != api.OK || Counts(p, skipped) || !Counts(q, y) || q.Rate != p.Rate || q.Gen != 1 {
		t.Errorf("%+v, %+v, %d", q, y, wrong)
	}
	switched, _, wrong := modes.Switch(c, asked, api.Allegro, api.Source{})
	if q, y, _, _ := Next(c, switched, p.End, api.Source{}); wrong != api.OK || Counts(p, switched) || !Counts(q, y) || q.Gen != 1 {
		t.Errorf("%+v, %+v, %d", q, y, wrong)
	}
	// It goes on counting when it is longer.
	if q, _, _ := Longer(c, p, api.Source{}); !Counts(q, asked) || Counts(q, skipped) || q.End != 2000 {
		t.Errorf("%+v", q)
	}
}

func TestRow(t *testing.T) { // P26.4
	c := config.Usual(api.Allegro)
	s := tape(0, 7, 90000, 90001)
	want := []api.Plan{
		{From: 100, End: 10100, Rate: 101000, Wanted: true, Gen: 5},
		{From: 10100, End: 20107, Rate: 99000, Wanted: true, Gen: 5},
		{From: 20107, End: 120107, Rate: 99000, Wanted: true, Gen: 5},
		{From: 120107, End: 130107, Rate: 101000, Wanted: true, Gen: 5},
		{From: 130107, End: 140107, Rate: 100000, Gen: 5},
		{From: 140107, End: 150107, Rate: 100000, Gen: 5},
	}
	x := trying(t, c, api.Allegro, 100000, 5)
	for many := range 7 {
		if l := Row(c, x, 100, many, s); !slices.Equal(l, want[:many]) {
			t.Errorf("%d: %+v", many, l)
		}
	}
	for _, many := range []int{0, -1, -100, -101, least} {
		if l := Row(c, x, 100, many, s); len(l) != 0 {
			t.Errorf("%d: %+v", many, l)
		}
	}
	if x != trying(t, c, api.Allegro, 100000, 5) || !same(s, tape(0, 7, 90000, 90001)) {
		t.Errorf("%+v, %+v", x, s)
	}
}

func TestARowOfManyIsOfAHundred(t *testing.T) { // P26.4
	for _, mode := range []int{1, 2, 3, 4, 5} {
		c := lasting(mode, 1000, 2000)
		x, s := made(t, c), draw.Pcg(42, 54)
		all := rowOf(c, x, 0, 100, s)
		if len(all) != 100 {
			t.Fatalf("%d", len(all))
		}
		for _, many := range []int{98, 99, 100, 101, 102, 200, 1 << 20, 1 << 62, most} {
			if l := Row(c, x, 0, many, s); !slices.Equal(l, all[:min(many, 100)]) {
				t.Errorf("%d: %d: %d", mode, many, len(l))
			}
		}
	}
}

func TestARowEndsWhereTimeEnds(t *testing.T) { // P26.4
	c := lasting(api.Vivace, 10000, 100000)
	x := made(t, c)
	for _, s := range []struct {
		at, many int
		s        api.Source
		want     int
	}{
		{lastTime - 20000, 9, tape(), 2},
		{lastTime - 20000, 1, tape(), 1},
		{lastTime - 20000, 2, tape(), 2},
		{lastTime - 20000, 3, tape(), 2},
		{lastTime - 20000, 9, tape(0, 1), 1},
		{lastTime - 20000, 9, tape(1), 1},
		{lastTime - 20001, 9, tape(0, 1), 2},
		{lastTime - 19999, 9, tape(), 1},
		{lastTime - 9999, 9, tape(), 0},
		{lastTime - 100000, 100, tape(90000), 1},
		{lastTime - 100000, 100, tape(90000 - 1), 1},
		{lastTime - 110000, 100, tape(90000), 2},
		{lastTime - 109999, 100, tape(90000), 1},
		{lastTime - 1000000, 100, tape(), 100},
		{lastTime - 1000000, 101, tape(), 100},
		{lastTime - 999999, 100, tape(), 99},
		{lastTime, 9, tape(), 0},
		{lastTime + 1, 9, tape(), 0},
		{-1, 9, tape(), 0},
		{-10000, 9, tape(), 0},
		{least, 9, tape(), 0},
		{most, 9, tape(), 0},
		{0, 9, tape(), 9},
	} {
		if l := Row(c, x, s.at, s.many, s.s); len(l) != s.want {
			t.Errorf("%+v: %+v", s, l)
		}
	}
}

func TestRowWordForWord(t *testing.T) { // P26.4
	r := random(5)
	lengths := map[int]int{}
	for range 20000 {
		c, x, at, many, s := r.config(), r.loose(t), r.time(), r.below(110), r.source()
		if r.below(8) == 0 {
			many = r.any()
		}
		l := Row(c, x, at, many, s)
		if want := rowOf(c, x, at, many, s); !slices.Equal(l, want) {
			t.Fatalf("%+v, %+v, %d, %d, %+v: %+v, not %+v", c, x, at, many, s, l, want)
		}
		lengths[len(l)]++
	}
	if lengths[0] < 100 || lengths[100] < 100 || len(lengths) != 101 {
		t.Errorf("%v", lengths)
	}
}

// apart tells what is not as it should be between the plans of a row.
func apart(c api.Config, at int, l []api.Plan) string {
	for _, p := range l {
		if p.From != at {
			return "a gap"
		}
		if n := p.End - p.From; n < c.MiMin || n > c.MiMax {
			return "a length"
		}
		if p.Rate < c.MinRate || p.Rate > c.MaxRate {
			return "a rate"
		}
		if p.Gen != l[0].Gen {
			return "a round"
		}
		at = p.End
	}
	return ""
}

func TestPlansFollowOneAnother(t *testing.T) { // P26.5, T2
	r := random(6)
	plans := 0
	for range 5000 {
		c, at := r.right(), r.size()%(lastTime+1)
		x, s := made(t, c), r.source()
		l := Row(c, x, at, 100, s)
		plans += len(l)
		if wrong := apart(c, at, l); wrong != "" {
			t.Fatalf("%+v, %d: %s: %+v", c, at, wrong, l)
		}
	}
	if plans < 100000 {
		t.Errorf("%d", plans)
	}
}

func TestARowBeginsALongerOne(t *testing.T) { // P26.5
	r := random(7)
	for range 5000 {
		c, x, at, s := r.right(), r.pilot(t), r.time(), r.source()
		all := Row(c, x, at, 100, s)
		for range 4 {
			many := r.below(101)
			l := Row(c, x, at, many, s)
			if !slices.Equal(l, all[:min(many, len(all))]) {
				t.Fatalf("%+v, %+v, %d, %d: %+v, not of %+v", c, x, at, many, l, all)
			}
		}
	}
}

func TestARowGoesOn(t *testing.T) { // P26.4, P26.5
	// Some plans, and a row from there on, are one row.
	r := random(8)
	for range 5000 {
		c, x, at, s := r.right(), r.pilot(t), r.size()%lastTime, r.source()
		many, some := r.below(60), r.below(60)
		all := Row(c, x, at, many+some, s)
		var l []api.Plan
		for range many {
			p, y, u, wrong := Next(c, x, at, s)
			if wrong != api.OK {
				break
			}
			l, x, at, s = append(l, p), y, p.End, u
		}
		if len(l) == many {
			l = append(l, Row(c, x, at, min(some, 100-many), s)...)
		}
		if !slices.Equal(l, all) {
			t.Fatalf("%+v, %d, %d: %+v, not %+v", c, many, some, l, all)
		}
	}
}

func TestNoMoreIsWantedThanARoundHas(t *testing.T) { // P26.2, P26.4
	// Until a worth is told no more is asked than a round needs, and the rate that is kept goes on.
	r := random(9)
	for range 5000 {
		c, x, s := r.right(), r.pilot(t), r.source()
		wanted, over := 0, false
		for _, p := range Row(c, x, 0, 9, s) {
			if p.Wanted && over || !p.Wanted && p.Rate != config.Bound(c, modes.Rate(x)) && p.Rate != modes.Rate(x) {
				t.Fatalf("%+v, %+v: %+v", c, x, p)
			}
			if p.Wanted {
				wanted++
			}
			over = !p.Wanted
		}
		if wanted > 4 || x.Mode != api.Allegro && wanted > 2 {
			t.Fatalf("%+v, %+v: %d", c, x, wanted)
		}
	}
}

func TestWhatIsHandedInStays(t *testing.T) { // R2
	l := []uint64{5, 90000, 3, 2, 1, 0, 7, 8}
	s := draw.Tape(l[:6])
	c := lasting(api.Allegro, 10000, 100000)
	x := trying(t, c, api.Allegro, 100000, 2)
	row := Row(c, x, 0, 6, s)
	kept := slices.Clone(row)
	// What is done later, and what is written into one answer, changes no other one.
	other := Row(c, x, 0, 6, s)
	for i := range other {
		other[i] = api.Plan{From: -1}
	}
	Row(c, x, 9, 99, draw.Pcg(42, 54))
	p, y, u, _ := Next(c, x, 0, s)
	again, z, v, _ := Next(c, x, 0, s)
	q, w, _ := Longer(c, p, u)
	if p != again || y != z || !same(u, v) || q.End != p.End+100000 || w.At != 2 || u.At != 1 || s.At != 0 {
		t.Errorf("%+v, %+v, %+v", p, again, q)
	}
	if !slices.Equal(row, kept) || p != kept[0] || x != trying(t, c, api.Allegro, 100000, 2) || !slices.Equal(l, []uint64{5, 90000, 3, 2, 1, 0, 7, 8}) {
		t.Errorf("%+v, %+v, %v", row, x, l)
	}
}

func TestNothingElseCounts(t *testing.T) { // P26.1, P26.2, P26.4
	r := random(10)
	for range 20000 {
		c, at, s := r.right(), r.size()%(lastTime/2), r.source()
		x, y := r.pilot(t), r.pilot(t)
		n, u := Length(c, s)
		p, _, v, wrong := Next(c, x, at, s)
		q, _, w, why := Next(c, y, at, s)
		// How long it is does not hang on the pilot, nor on the time.
		if wrong != api.OK || why != api.OK || p.End-p.From != n || q.End-q.From != n || !same(u, v) || !same(u, w) {
			t.Fatalf("%+v, %d, %+v: %+v, %+v, %d, %d", c, at, s, p, q, wrong, why)
		}
		// What is asked hangs on the pilot, by the config, alone.
		rate, wanted, then := modes.Ask(c, x)
		o, z, _, why := Next(c, x, at+1, r.source())
		if why != api.OK || o.Rate != rate || o.Wanted != wanted || o.Gen != x.Gen || z != then {
			t.Fatalf("%+v, %+v: %+v, %+v", c, x, o, z)
		}
		// How much longer a plan becomes does not hang on what it is else.
		long, _, why := Longer(c, api.Plan{From: r.any(), End: at, Rate: r.any(), Wanted: r.flip(), Gen: r.any()}, s)
		if why != api.OK || long.End != at+n {
			t.Fatalf("%+v, %d, %+v: %+v", c, at, s, long)
		}
	}
}

func TestRowsOfRightPilotsAreRight(t *testing.T) { // P26.2, P24.5
	r := random(11)
	for range 5000 {
		c, x, s := r.right(), r.pilot(t), r.source()
		for range 6 {
			var wrong api.Errno
			if _, x, s, wrong = Next(c, x, 0, s); wrong != api.OK || !modes.Is(x) {
				t.Fatalf("%+v: %+v, %d", c, x, wrong)
			}
			if x.Mode == api.Allegro && !steer.Is(x.S) || x.Mode != api.Allegro && !climb.Is(x.C) {
				t.Fatalf("%+v: %+v", c, x)
			}
		}
	}
}
