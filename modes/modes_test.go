package modes

import (
	"math"
	"slices"
	"testing"

	"pacemaker/api"
	"pacemaker/climb"
	"pacemaker/config"
	"pacemaker/contest"
	"pacemaker/draw"
	"pacemaker/order"
	"pacemaker/probe"
	"pacemaker/proteus"
	"pacemaker/steer"
)

const (
	most  = math.MaxInt
	least = math.MinInt
	one   = 1048576
)

// Both orders of a pair, by which number of a tape they are drawn, and some orders of trials, likewise.
var (
	ud   = [2]bool{true, false}              // heads
	du   = [2]bool{false, true}              // tails
	uudd = [4]bool{true, true, false, false} // 0
	udud = [4]bool{true, false, true, false} // 1, and so is tails
	uddu = [4]bool{true, false, false, true} // 2, and so is heads
	duud = [4]bool{false, true, true, false} // 3
)

const (
	heads = 1 << 31
	tails = 1<<31 - 1
)

func tape(l ...uint64) api.Source { return draw.Tape(l) }

// same tells whether two sources are at the same place, and will draw the same.
func same(a, b api.Source) bool {
	return a.Kind == b.Kind && a.State == b.State && a.Inc == b.Inc && a.At == b.At && slices.Equal(a.Tape, b.Tape)
}

// nothing tells whether a source is that of an error.
func nothing(s api.Source) bool { return same(s, api.Source{}) }

// by is a usual config, but with these rates.
func by(low, high, start int) api.Config {
	c := config.Usual(api.Vivace)
	c.MinRate, c.MaxRate, c.StartRate = low, high, start
	return c
}

// configs are right ones, and others, whose rates are far apart, near, the same, in the wrong order, and at all ends.
func configs() []api.Config {
	var l []api.Config
	for _, x := range [][3]int{
		{10000, 125000000, 50000}, {1000, 1000000000, 1000}, {50000, 50000, 50000}, {10001, 10002, 10001}, {20000, 10000, 15000}, {0, 0, 0}, {0, 100, 50}, {-5, 5, 1}, {-1000, -10, -20},
		{least, most, 1}, {most, least, 0}, {least, least, 5}, {most, most, 5}, {1, most, 1}, {0, most, api.Top - 1}, {-api.Top - 1, 0, -api.Top},
	} {
		l = append(l, by(x[0], x[1], x[2]))
	}
	return append(l, api.Config{})
}

// edges are 0, the ends of all kinds, what is beside them, and some others.
func edges() []int {
	l := []int{least, least + 1, most - 1, most}
	for _, n := range []int{0, 5, 200, 10000, 50000, 125000000, 1 << 40, api.Top} {
		for beside := -1; beside <= 1; beside++ {
			l = append(l, n+beside, -n+beside)
		}
	}
	slices.Sort(l)
	return slices.Compact(l)
}

// random makes the same numbers at each run.
type random uint64

func (r *random) below(n int) int {
	*r = *r*6364136223846793005 + 1442695040888963407
	return int(uint64(*r)>>33) % n
}

// size is any int that is not below 0, small or great.
func (r *random) size() int {
	return (r.below(1<<31)<<32 | r.below(1<<31)<<1 | r.below(2)) >> r.below(63)
}

// any is any int, small or great, of both signs.
func (r *random) any() int {
	n := r.size()
	if r.below(2) == 0 {
		return ^n
	}
	return n
}

// near is one of few numbers, so that some are the same.
func (r *random) near() int { return r.below(7) - 3 }

// flip is either.
func (r *random) flip() bool { return r.below(2) == 0 }

// source is one of any kind.
func (r *random) source() api.Source {
	switch r.below(4) {
	case 0:
		return tape(uint64(r.size()), uint64(r.size()))
	case 1:
		return api.Source{Kind: r.near() + 4, At: r.near()}
	}
	return draw.Pcg(uint64(r.size()), uint64(r.size()))
}

// right is a right config with any rates, steps and worths.
func (r *random) right() api.Config {
	c := config.Usual(1 + r.below(5))
	c.MinRate = 1000 + r.below(1000000000-999)>>r.below(30)
	c.MaxRate = c.MinRate + r.below(1000000001-c.MinRate)>>r.below(30)
	c.StartRate = c.MinRate + r.below(c.MaxRate-c.MinRate+1)>>r.below(30)
	c.Steps = 1 + r.below(16)
	c.Eps = 1 + r.below(min(262144, 524288/c.Steps))>>r.below(18)
	c.Omega, c.Widen = 1+r.below(524288)>>r.below(19), r.below(524289)>>r.below(20)
	c.Gain, c.Knee, c.Slope = 1+r.size()>>23, 1+r.below(524288)>>r.below(19), 1+r.size()>>23
	c.Power, c.Lag, c.Loss, c.Jitter = 1+r.below(one)>>r.below(20), r.size()>>23, r.size()>>23, r.size()>>23
	c.Cut = r.below(1000000001) >> r.below(30)
	return c
}

// strange is any config, right or not.
func (r *random) strange() api.Config {
	c := by(r.any(), r.any(), r.any())
	c.Mode, c.Eps, c.Steps, c.Omega, c.Widen, c.Gain, c.Knee = r.any(), r.any(), r.any(), r.any(), r.any(), r.any(), r.any()
	c.Slope, c.Power, c.Lag, c.Loss, c.Jitter, c.Cut = r.any(), r.any(), r.any(), r.any(), r.any(), r.any()
	return c
}

// config is one of both.
func (r *random) config() api.Config {
	if r.flip() {
		return r.right()
	}
	return r.strange()
}

// stats are what an interval may tell, or any.
func (r *random) stats() api.Stats {
	if r.below(4) == 0 {
		return api.Stats{Rate: r.any(), Good: r.any(), Loss: r.any(), Mean: r.any(), Dev: r.any(), Grade: r.any(), N: r.any()}
	}
	rate := r.below(1000000000) >> r.below(20)
	return api.Stats{Rate: rate, Good: r.below(rate + 1), Loss: r.below(one+1) >> r.below(20), Dev: r.size() >> 30, Grade: r.near() << r.below(20)}
}

// start is a starting phase that may be over.
func (r *random) start() api.Start {
	return api.Start{Rate: r.below(1000000000), Best: r.below(1000000000), Last: r.near() << r.below(40), N: r.below(3), Over: r.flip()}
}

// contest is a right one, told so many times.
func (r *random) contest(n int) api.Contest {
	order, _ := order.Four(r.below(6))
	x := api.Contest{Base: r.below(1000000000), Step: 1 + r.below(16), Order: order, N: n}
	for i := range n {
		x.Got[i] = r.near() << r.below(40)
	}
	return x
}

// steer is a right one, and what its phase does not go by is anything.
func (r *random) steer() api.Steer {
	x := api.Steer{Phase: 1 + r.below(3), Start: r.start(), X: r.contest(r.below(5)), Rate: r.below(1000000000), Prev: r.below(1000000000), Step: r.any(), Side: r.any(), Last: r.near() << r.below(40), Asked: r.below(2)}
	switch x.Phase {
	case api.PhaseStart:
		x.Start.Over = false
	case api.PhaseTry:
		x.X = r.contest(r.below(4))
		x.Asked = x.X.N + r.below(5-x.X.N)
	case api.PhaseMove:
		x.Side, x.Step = 2*r.below(2)-1, 1+r.below(16)
	}
	return x
}

// probe is a right one, told so many times.
func (r *random) probe(n int) api.Probe {
	x := api.Probe{Base: r.below(1000000000) >> r.below(20), Order: ud, N: n}
	if r.flip() {
		x.Order = du
	}
	for i := range n {
		x.Got[i] = r.near() << r.below(40)
	}
	return x
}

// climb is a right one, and what its phase does not go by is anything.
func (r *random) climb() api.Climb {
	x := api.Climb{Phase: 1 + r.below(2), Start: r.start(), X: r.probe(r.below(3)), Rate: r.below(1000000000) >> r.below(20), K: r.size(), Asked: r.below(2)}
	if r.flip() {
		x.B = api.Boost{Side: 2*r.below(2) - 1, Run: 1 + r.below(63)}
	}
	switch x.Phase {
	case api.PhaseStart:
		x.Start.Over = false
	case api.PhaseTry:
		x.X = r.probe(r.below(2))
		x.Asked = x.X.N + r.below(3-x.X.N)
	}
	return x
}

// gen is how often rounds may have been begun anew.
func (r *random) gen() int {
	if r.below(4) == 0 {
		return most - r.below(2)
	}
	return r.size()
}

// pilot is a right one, of any mode.
func (r *random) pilot() api.Pilot {
	x := api.Pilot{Mode: 1 + r.below(5), Gen: r.gen()}
	if x.Mode == api.Allegro || r.below(3) == 0 {
		x.Mode, x.S = api.Allegro, r.steer()
		return x
	}
	x.C = r.climb()
	return x
}

// loose is a pilot that may be wrong in any way.
func (r *random) loose() api.Pilot {
	x := r.pilot()
	switch r.below(12) {
	case 0:
		x.Mode = r.near() + 3
	case 1:
		x.Mode = r.any()
	case 2:
		x.Gen = r.near()
	case 3:
		x.Gen = r.any()
	case 4:
		x.S, x.C = r.steer(), r.climb()
	case 5:
		x.S.Asked, x.C.Asked = r.near()*r.below(2), r.near()*r.below(2)
	case 6:
		x.S.Phase, x.C.Phase = r.near()*r.below(2), r.near()*r.below(2)
	case 7:
		x.S.X.N, x.C.X.N = r.near()*r.below(2), r.near()*r.below(2)
	}
	return x
}

// isOf is what the chapter calls right, word for word.
func isOf(x api.Pilot) bool {
	if x.Mode < 1 || x.Mode > 5 || x.Gen < 0 {
		return false
	}
	if x.Mode == 1 {
		return steer.Is(x.S) && x.C == api.Climb{}
	}
	return climb.Is(x.C) && x.S == api.Steer{}
}

// newOf and rateOf are the others of P24.1 word for word.
func newOf(c api.Config) (api.Pilot, api.Errno) {
	if wrong := config.Check(c); wrong != api.OK {
		return api.Pilot{}, wrong
	}
	if c.Mode == 1 {
		return api.Pilot{Mode: 1, S: steer.New(c)}, api.OK
	}
	return api.Pilot{Mode: c.Mode, C: climb.New(c)}, api.OK
}

func rateOf(x api.Pilot) int {
	if x.Mode == 1 {
		return x.S.Rate
	}
	return x.C.Rate
}

// askOf and tellOf are P24.2 word for word.
func askOf(c api.Config, x api.Pilot) (rate int, wanted bool, y api.Pilot) {
	y = x
	switch {
	case !isOf(x):
		rate = rateOf(x)
	case x.Mode == 1:
		rate, wanted, y.S = steer.Ask(c, x.S)
	default:
		rate, wanted, y.C = climb.Ask(c, x.C)
	}
	return rate, wanted, y
}

func tellOf(c api.Config, x api.Pilot, t api.Stats, s api.Source) (y api.Pilot, u api.Source, wrong api.Errno) {
	if !isOf(x) {
		return api.Pilot{}, api.Source{}, api.ErrArg
	}
	worth, wrong := proteus.Of(c, x.Mode, t)
	if wrong != api.OK {
		panic(wrong)
	}
	y = x
	if x.Mode == 1 {
		y.S, u, wrong = steer.Tell(c, x.S, worth, s)
	} else {
		y.C, u, wrong = climb.Tell(c, x.C, worth, s)
	}
	if wrong != api.OK {
		return api.Pilot{}, api.Source{}, wrong
	}
	return y, u, api.OK
}

// genOf is one more, word for word.
func genOf(gen int) int {
	if gen == 9223372036854775807 {
		return 0
	}
	return gen + 1
}

// skipOf is P24.3 word for word.
func skipOf(x api.Pilot) (api.Pilot, api.Errno) {
	if !isOf(x) {
		return api.Pilot{}, api.ErrArg
	}
	asked, told := &x.C.Asked, 0
	if x.C.Phase == 2 {
		told = x.C.X.N
	}
	if x.Mode == 1 {
		asked, told = &x.S.Asked, 0
		if x.S.Phase == 2 {
			told = x.S.X.N
		}
	}
	if *asked == told {
		return api.Pilot{}, api.ErrNone
	}
	*asked, x.Gen = told, genOf(x.Gen)
	return x, api.OK
}

// switchOf is P24.4 word for word.
func switchOf(c api.Config, x api.Pilot, mode int, s api.Source) (api.Pilot, api.Source, api.Errno) {
	if !isOf(x) {
		return api.Pilot{}, api.Source{}, api.ErrArg
	}
	if mode < 1 || mode > 5 {
		return api.Pilot{}, api.Source{}, api.ErrMode
	}
	if mode == x.Mode {
		return x, s, api.OK
	}
	y := api.Pilot{Mode: mode, Gen: genOf(x.Gen)}
	if mode != 1 {
		y.C, s = climb.From(c, rateOf(x), s)
		return y, s, api.OK
	}
	rate := config.Bound(c, rateOf(x))
	trials, s := order.Trials(s)
	trial, wrong := contest.New(c, rate, 1, trials)
	if wrong != api.OK {
		panic(wrong)
	}
	y.S = api.Steer{Phase: 2, X: trial, Rate: rate, Step: 1}
	return y, s, api.OK
}

// Right pilots: in each phase one of Allegro, and of another mode.
func starting(mode, rate, asked int) api.Pilot {
	if mode == api.Allegro {
		return api.Pilot{Mode: mode, S: api.Steer{Phase: 1, Start: api.Start{Rate: rate}, Rate: rate, Asked: asked}}
	}
	return api.Pilot{Mode: mode, C: api.Climb{Phase: 1, Start: api.Start{Rate: rate}, Rate: rate, Asked: asked}}
}

func trying(mode, rate, asked int, got ...int) api.Pilot {
	if mode == api.Allegro {
		x := api.Contest{Base: rate, Step: 1, Order: uddu, N: len(got)}
		copy(x.Got[:], got)
		return api.Pilot{Mode: mode, S: api.Steer{Phase: 2, X: x, Rate: rate, Step: 1, Asked: asked}}
	}
	x := api.Probe{Base: rate, Order: ud, N: len(got)}
	copy(x.Got[:], got)
	return api.Pilot{Mode: mode, C: api.Climb{Phase: 2, X: x, Rate: rate, Asked: asked}}
}

func moving(rate, asked int) api.Pilot {
	return api.Pilot{Mode: api.Allegro, S: api.Steer{Phase: 3, X: api.Contest{Order: uudd, N: 9}, Rate: rate, Prev: 7, Step: 2, Side: -1, Last: 5, Asked: asked}}
}

// allModes are the five, in order.
func allModes() []int { return []int{1, 2, 3, 4, 5} }

func TestIsOfWhichModeAndGen(t *testing.T) { // P24.1
	s, c := starting(api.Allegro, 50000, 0).S, starting(api.Vivace, 50000, 0).C
	for _, mode := range append(edges(), 2, 3) {
		for _, gen := range edges() {
			if x := (api.Pilot{Mode: mode, S: s, Gen: gen}); Is(x) != (mode == 1 && gen >= 0) {
				t.Errorf("%+v", x)
			}
			if x := (api.Pilot{Mode: mode, C: c, Gen: gen}); Is(x) != (mode >= 2 && mode <= 5 && gen >= 0) {
				t.Errorf("%+v", x)
			}
			if x := (api.Pilot{Mode: mode, S: s, C: c, Gen: gen}); Is(x) {
				t.Errorf("%+v", x)
			}
			if x := (api.Pilot{Mode: mode, Gen: gen}); Is(x) {
				t.Errorf("%+v", x)
			}
		}
	}
}

func TestIsByWhatItsModeGoesBy(t *testing.T) { // P24.1
	for _, mode := range allModes() {
		for asked := -1; asked <= 6; asked++ {
			all := 2
			if mode == 1 {
				all = 4
				if x := moving(5, asked); Is(x) != (asked == 0 || asked == 1) {
					t.Errorf("%+v", x)
				}
			}
			if x := starting(mode, 5, asked); Is(x) != (asked == 0 || asked == 1) {
				t.Errorf("%+v", x)
			}
			for n := range 6 {
				if x := trying(mode, 5, asked, make([]int, n)...); Is(x) != (n < all && asked >= n && asked <= all) {
					t.Errorf("%+v", x)
				}
			}
		}
	}
	// Neither does a climb move, nor is it right without its boost and its fence.
	x := trying(3, 5, 1)
	for _, spoil := range []func(x *api.Climb){
		func(x *api.Climb) { x.Phase = 3 }, func(x *api.Climb) { x.B.Run = 1 }, func(x *api.Climb) { x.K = -1 }, func(x *api.Climb) { x.X.Order = [2]bool{} },
	} {
		y := x
		if spoil(&y.C); Is(y) || !Is(x) {
			t.Errorf("%+v", y)
		}
	}
}

func TestIsByWhatItsModeDoesNotGoBy(t *testing.T) { // P24.1
	for i, mark := range []func(x *api.Pilot){
		func(x *api.Pilot) { x.S.Phase = 1 }, func(x *api.Pilot) { x.S.Start.Rate = 1 }, func(x *api.Pilot) { x.S.Start.Best = 1 }, func(x *api.Pilot) { x.S.Start.Last = -1 },
		func(x *api.Pilot) { x.S.Start.N = 1 }, func(x *api.Pilot) { x.S.Start.Over = true }, func(x *api.Pilot) { x.S.X.Base = 1 }, func(x *api.Pilot) { x.S.X.Step = 1 },
		func(x *api.Pilot) { x.S.X.Order[3] = true }, func(x *api.Pilot) { x.S.X.N = 1 }, func(x *api.Pilot) { x.S.X.Got[3] = 1 }, func(x *api.Pilot) { x.S.Rate = 1 },
		func(x *api.Pilot) { x.S.Prev = 1 }, func(x *api.Pilot) { x.S.Step = 1 }, func(x *api.Pilot) { x.S.Side = -1 }, func(x *api.Pilot) { x.S.Last = 1 },
		func(x *api.Pilot) { x.S.Asked = 1 }, func(x *api.Pilot) { x.S = starting(1, 5, 0).S },
	} {
		for _, x := range []api.Pilot{starting(2, 5, 0), starting(3, 5, 1), trying(4, 5, 1, 1), trying(5, 5, 2)} {
			y := x
			if mark(&y); !Is(x) || Is(y) {
				t.Errorf("%d: %+v", i, y)
			}
		}
	}
	for i, mark := range []func(x *api.Pilot){
		func(x *api.Pilot) { x.C.Phase = 1 }, func(x *api.Pilot) { x.C.Start.Rate = 1 }, func(x *api.Pilot) { x.C.Start.Best = 1 }, func(x *api.Pilot) { x.C.Start.Last = -1 },
		func(x *api.Pilot) { x.C.Start.N = 1 }, func(x *api.Pilot) { x.C.Start.Over = true }, func(x *api.Pilot) { x.C.X.Base = 1 }, func(x *api.Pilot) { x.C.X.Order[1] = true },
		func(x *api.Pilot) { x.C.X.N = 1 }, func(x *api.Pilot) { x.C.X.Got[1] = 1 }, func(x *api.Pilot) { x.C.Rate = 1 }, func(x *api.Pilot) { x.C.B.Side = 1 },
		func(x *api.Pilot) { x.C.B.Run = 1 }, func(x *api.Pilot) { x.C.K = 1 }, func(x *api.Pilot) { x.C.Asked = 1 }, func(x *api.Pilot) { x.C = starting(2, 5, 0).C },
	} {
		for _, x := range []api.Pilot{starting(1, 5, 0), starting(1, 5, 1), trying(1, 5, 1, 1), trying(1, 5, 4), moving(5, 1)} {
			y := x
			if mark(&y); !Is(x) || Is(y) {
				t.Errorf("%d: %+v", i, y)
			}
		}
	}
}

func TestIsWordForWord(t *testing.T) { // P24.1
	r := random(24)
	rights := 0
	for range 100000 {
		x := r.loose()
		if Is(x) != isOf(x) {
			t.Fatalf("%+v: not %t", x, isOf(x))
		}
		if y := r.pilot(); !Is(y) {
			t.Fatalf("%+v", y)
		}
		if Is(x) {
			rights++
		}
	}
	if rights < 20000 || rights > 80000 {
		t.Errorf("%d", rights)
	}
}

func TestNew(t *testing.T) { // P24.1
	for _, mode := range allModes() {
		if x, wrong := New(config.Usual(mode)); x != starting(mode, 50000, 0) || wrong != api.OK || !Is(x) {
			t.Errorf("%d: %+v, %d", mode, x, wrong)
		}
	}
	for i, x := range []struct {
		spoil func(c *api.Config)
		want  api.Errno
	}{
		{func(c *api.Config) { c.Mode = 0 }, api.ErrMode},
		{func(c *api.Config) { c.Mode = 6 }, api.ErrMode},
		{func(c *api.Config) { c.Mode = least }, api.ErrMode},
		{func(c *api.Config) { c.MinRate = 999 }, api.ErrRate},
		{func(c *api.Config) { c.MaxRate = 1000000001 }, api.ErrRate},
		{func(c *api.Config) { c.StartRate = 9999 }, api.ErrRate},
		{func(c *api.Config) { c.Packet = 63 }, api.ErrSize},
		{func(c *api.Config) { c.Ring = 4097 }, api.ErrSize},
		{func(c *api.Config) { c.MiMin = 999 }, api.ErrSpan},
		{func(c *api.Config) { c.Timeout = 60000001 }, api.ErrSpan},
		{func(c *api.Config) { c.Eps = 0 }, api.ErrStep},
		{func(c *api.Config) { c.Steps = 17 }, api.ErrStep},
		{func(c *api.Config) { c.Gain = 0 }, api.ErrGain},
		{func(c *api.Config) { c.Cut = -1 }, api.ErrGain},
		{func(c *api.Config) { *c = api.Config{} }, api.ErrMode},
		{func(c *api.Config) { c.Mode, c.MinRate, c.Gain = 0, 0, 0 }, api.ErrMode},
		{func(c *api.Config) { c.MinRate, c.Gain = 0, 0 }, api.ErrRate},
	} {
		for _, mode := range allModes() {
			c := config.Usual(mode)
			x.spoil(&c)
			if y, wrong := New(c); y != (api.Pilot{}) || wrong != x.want {
				t.Errorf("%d: %+v, %d, not %d", i, y, wrong, x.want)
			}
		}
	}
}

func TestNewWordForWord(t *testing.T) { // P24.1
	check := func(c api.Config) {
		t.Helper()
		x, wrong := New(c)
		if want, why := newOf(c); x != want || wrong != why || Is(x) != (wrong == api.OK) {
			t.Fatalf("%+v: %+v, %d, not %+v, %d", c, x, wrong, want, why)
		}
	}
	r := random(25)
	for range 10000 {
		c := r.right()
		check(c)
		check(r.strange())
		x := r.strange()
		c.MinRate, c.MaxRate = x.MinRate, x.MaxRate
		check(c)
	}
	for _, c := range configs() {
		for _, c.Mode = range append(allModes(), 0, 6) {
			check(c)
		}
	}
}

func TestRate(t *testing.T) { // P24.1
	for _, mode := range append(edges(), 2, 3) {
		want := 8
		if mode == 1 {
			want = 7
		}
		for _, x := range []api.Pilot{
			{}, {Gen: 5}, {Gen: -1}, {S: api.Steer{Phase: 1}, C: api.Climb{Phase: 1}},
			// It is neither the starting phase's rate nor the trial's.
			{S: api.Steer{Phase: 1, Start: api.Start{Rate: 3}, Prev: 4, X: api.Contest{Base: 5}}, C: api.Climb{Phase: 2, Start: api.Start{Rate: 3}, X: api.Probe{Base: 5}}},
		} {
			x.Mode, x.S.Rate, x.C.Rate = mode, 7, 8
			if n := Rate(x); n != want {
				t.Errorf("%+v: %d", x, n)
			}
		}
	}
	for _, rate := range edges() {
		for _, mode := range allModes() {
			if x, y := starting(mode, rate, 0), trying(mode, rate, 1); Rate(x) != rate || Rate(y) != rate {
				t.Errorf("%+v, %+v", x, y)
			}
		}
		if x := moving(rate, 0); Rate(x) != rate {
			t.Errorf("%+v", x)
		}
	}
	r := random(26)
	for range 20000 {
		if x := r.loose(); Rate(x) != rateOf(x) {
			t.Fatalf("%+v: %d", x, Rate(x))
		}
	}
}

func TestAsk(t *testing.T) { // P24.2
	for _, x := range []struct {
		x      api.Pilot
		rate   int
		wanted bool
	}{
		{starting(1, 70000, 0), 70000, true},
		{starting(1, 70000, 1), 70000, false},
		{starting(4, 70000, 0), 70000, true},
		{starting(4, 70000, 1), 70000, false},
		{trying(1, 100000, 0), 101000, true},
		{trying(1, 100000, 1), 99000, true},
		{trying(1, 100000, 2, 5), 99000, true},
		{trying(1, 100000, 3, 5, 6, 7), 101000, true},
		{trying(1, 100000, 4, 5), 100000, false},
		{trying(2, 100000, 0), 101000, true},
		{trying(3, 100000, 1), 99000, true},
		{trying(4, 100000, 1, 5), 99000, true},
		{trying(5, 100000, 2), 100000, false},
		{trying(5, 100000, 2, 5), 100000, false},
		{moving(80000, 0), 80000, true},
		{moving(80000, 1), 80000, false},
	} {
		for _, gen := range []int{0, 1, most} {
			// Whatever the config's mode is: it is the pilot's that counts.
			for _, mode := range append(allModes(), 0) {
				c, y := config.Usual(mode), x.x
				y.Gen = gen
				rate, wanted, z := Ask(c, y)
				if wanted && y.Mode == 1 {
					y.S.Asked++
				} else if wanted {
					y.C.Asked++
				}
				if rate != x.rate || wanted != x.wanted || z != y || !Is(z) {
					t.Errorf("%+v: %d, %t, %+v", x.x, rate, wanted, z)
				}
			}
		}
	}
}

func TestAskWhatIsWrong(t *testing.T) { // P24.2
	for _, mode := range allModes() {
		for _, spoil := range []func(x *api.Pilot){
			func(x *api.Pilot) { x.Gen = -1 },
			func(x *api.Pilot) { x.Gen = least },
			func(x *api.Pilot) { x.Mode = 0 },
			func(x *api.Pilot) { x.Mode = 6 },
			func(x *api.Pilot) { x.Mode = -x.Mode },
			func(x *api.Pilot) { x.S, x.C = starting(1, 5, 0).S, starting(2, 6, 0).C },
			func(x *api.Pilot) { x.S.Asked, x.C.Asked = 7, 7 },
			func(x *api.Pilot) { x.S.Asked, x.C.Asked = -1, -1 },
			func(x *api.Pilot) { x.S.Phase, x.C.Phase = 0, 0 },
			func(x *api.Pilot) { x.S.Prev, x.C.K = 1, 1 },
			func(x *api.Pilot) { *x = api.Pilot{Mode: x.Mode} },
			func(x *api.Pilot) { *x = api.Pilot{} },
		} {
			for _, x := range []api.Pilot{starting(mode, 70000, 0), starting(mode, 70000, 1), trying(mode, 70000, 0), trying(mode, 70000, 1, 9)} {
				y := x
				spoil(&y)
				if rate, wanted, z := Ask(config.Usual(mode), y); rate != rateOf(y) || wanted || z != y || Is(y) {
					t.Errorf("%+v: %d, %t, %+v", y, rate, wanted, z)
				}
			}
		}
	}
}

func TestAskWordForWord(t *testing.T) { // P24.2
	r := random(27)
	for range 50000 {
		c, x := r.config(), r.loose()
		rate, wanted, y := Ask(c, x)
		if want, is, then := askOf(c, x); rate != want || wanted != is || y != then {
			t.Fatalf("%+v, %+v: %d, %t, %+v, not %d, %t, %+v", c, x, rate, wanted, y, want, is, then)
		}
	}
}

// interval tells stats that are worth another number by each mode that is not Hybrid.
func interval(rate int) api.Stats {
	return api.Stats{Rate: rate, Good: rate / 2, Loss: one / 32, Mean: 20000 * one, Dev: 1000 * one, Grade: -one / 1024, N: 9}
}

func TestTellByWhichMode(t *testing.T) { // P24.2
	for _, x := range []struct{ mode, cut, worth int }{
		// Of the 500 units that came through the curve leaves 909155 parts of 1, and 31 and a quarter are lost.
		{api.Allegro, 1000000, 909155*500 - 32768000},
		// 1000 units, to nine tenths of a power, are some 501; 900 times a unit by 1024 is gained for each of them, where a queue that falls is a gain, and 11 and 3 eighths times the part that was lost goes.
		{api.Vivace, 1000000, 525531515 + 921600000 - 372736000},
		{api.ProteusP, 1000000, 525531515 - 372736000},
		// 1500 times 1049 parts of a second go for each unit.
		{api.ProteusS, 1000000, 525531515 - 372736000 - 1573500000},
		{api.Hybrid, 1000000, 525531515 - 372736000 - 1573500000},
		{api.Hybrid, 1000001, 525531515 - 372736000},
	} {
		for _, mode := range append(allModes(), 0, 6) {
			// Not the config's mode counts, but the pilot's.
			c := config.Usual(mode)
			c.Cut = x.cut
			y, s, wrong := Tell(c, trying(x.mode, 100000, 1), interval(1000000), tape(heads))
			if want := trying(x.mode, 100000, 1, x.worth); y != want || wrong != api.OK || s.At != 0 || !Is(y) {
				t.Errorf("%+v: %+v, %+v, %d", x, y, s, wrong)
			}
		}
	}
}

func TestTellWhereItLeads(t *testing.T) { // P24.2
	s := tape(2, heads)
	// A starting phase is told, and goes on.
	x := starting(api.Allegro, 50000, 1)
	x.Gen = most
	y, u, wrong := Tell(config.Usual(api.Vivace), x, api.Stats{Good: 1000}, s)
	if want := (api.Steer{Phase: 1, Start: api.Start{Rate: 100000, Best: 50000, Last: 1041558, N: 1}, Rate: 100000}); y != (api.Pilot{Mode: 1, S: want, Gen: most}) || !same(u, s) || wrong != api.OK {
		t.Errorf("%+v, %+v, %d", y, u, wrong)
	}
	// It is over, and its best rate is tried.
	y.S.Asked = 1
	y, u, wrong = Tell(config.Usual(api.Vivace), y, api.Stats{Good: 1000}, s)
	if want := (api.Contest{Base: 50000, Step: 1, Order: uddu}); y.S.Phase != 2 || y.S.Rate != 50000 || y.S.X != want || y.C != (api.Climb{}) || y.Gen != most || u.At != 1 || wrong != api.OK {
		t.Errorf("%+v, %+v, %d", y, u, wrong)
	}
	// A climb's probe is whole, and moves its rate.
	x = trying(api.ProteusP, 100000, 2, 3*one)
	x.Gen = 5
	y, u, wrong = Tell(config.Usual(api.Vivace), x, api.Stats{Rate: 1000}, tape(heads, 2))
	if want := (api.Climb{Phase: 2, X: api.Probe{Base: 101000, Order: ud}, Rate: 101000, B: api.Boost{Side: 1, Run: 1}}); y != (api.Pilot{Mode: 3, C: want, Gen: 5}) || u.At != 1 || wrong != api.OK {
		t.Errorf("%+v, %+v, %d", y, u, wrong)
	}
}

func TestTellWhatIsRefused(t *testing.T) { // P24.2
	check := func(x api.Pilot, want api.Errno) {
		t.Helper()
		for _, s := range []api.Source{{}, tape(1, 2), draw.Pcg(42, 54)} {
			if y, u, wrong := Tell(config.Usual(api.Vivace), x, interval(1000), s); y != (api.Pilot{}) || !nothing(u) || wrong != want {
				t.Errorf("%+v: %+v, %+v, %d", x, y, u, wrong)
			}
		}
	}
	for _, mode := range allModes() {
		check(starting(mode, 50000, 0), api.ErrNone)
		check(trying(mode, 50000, 0), api.ErrNone)
		check(trying(mode, 50000, 1, 7), api.ErrNone)
		check(starting(mode, 50000, 2), api.ErrArg)
		check(starting(mode, 50000, -1), api.ErrArg)
		for _, asked := range []int{0, 1} {
			x := starting(mode, 50000, asked)
			x.Gen = -1
			check(x, api.ErrArg)
			x = starting(mode, 50000, asked)
			x.Mode = 0
			check(x, api.ErrArg)
			x.Mode = 6
			check(x, api.ErrArg)
			x.Mode = least
			check(x, api.ErrArg)
			x = starting(mode, 50000, asked)
			x.S.Last, x.C.B.Side = x.S.Last+1, 1
			check(x, api.ErrArg)
		}
	}
	check(moving(50000, 0), api.ErrNone)
	check(trying(1, 50000, 3, 7, 8, 9), api.ErrNone)
	check(api.Pilot{}, api.ErrArg)
}

func TestTellWordForWord(t *testing.T) { // P24.2
	r := random(28)
	good, none := 0, 0
	check := func(c api.Config, x api.Pilot) {
		t.Helper()
		m, s := r.stats(), r.source()
		y, u, wrong := Tell(c, x, m, s)
		if want, then, why := tellOf(c, x, m, s); y != want || !same(u, then) || wrong != why {
			t.Fatalf("%+v, %+v, %+v: %+v, %+v, %d, not %+v, %+v, %d", c, x, m, y, u, wrong, want, then, why)
		}
		switch wrong {
		case api.OK:
			good++
		case api.ErrNone:
			none++
		}
	}
	for range 50000 {
		check(r.config(), r.loose())
		check(r.config(), r.pilot())
	}
	for _, c := range configs() {
		for _, mode := range allModes() {
			check(c, starting(mode, 50000, 1))
			check(c, trying(mode, 50000, 2, 5))
			check(c, trying(mode, 50000, 2, 5, 7))
		}
		check(c, moving(50000, 1))
	}
	if good < 30000 || none < 20000 {
		t.Errorf("%d, %d", good, none)
	}
}

func TestSkip(t *testing.T) { // P24.3
	for _, x := range []struct{ x, want api.Pilot }{
		{starting(1, 50000, 1), starting(1, 50000, 0)},
		{starting(2, 50000, 1), starting(2, 50000, 0)},
		{starting(5, 50000, 1), starting(5, 50000, 0)},
		{moving(50000, 1), moving(50000, 0)}, // whatever its contest was told
		{trying(1, 50000, 1), trying(1, 50000, 0)},
		{trying(1, 50000, 4), trying(1, 50000, 0)},
		{trying(1, 50000, 2, 7), trying(1, 50000, 1, 7)},
		{trying(1, 50000, 4, 7), trying(1, 50000, 1, 7)},
		{trying(1, 50000, 3, 7, 8), trying(1, 50000, 2, 7, 8)},
		{trying(1, 50000, 4, 7, 8, 9), trying(1, 50000, 3, 7, 8, 9)},
		{trying(2, 50000, 1), trying(2, 50000, 0)},
		{trying(3, 50000, 2), trying(3, 50000, 0)},
		{trying(4, 50000, 2, 7), trying(4, 50000, 1, 7)},
	} {
		for _, gen := range []struct{ gen, next int }{{0, 1}, {1, 2}, {41, 42}, {most - 1, most}, {most, 0}} {
			y, want := x.x, x.want
			y.Gen, want.Gen = gen.gen, gen.next
			if z, wrong := Skip(y); z != want || wrong != api.OK || !Is(z) {
				t.Errorf("%+v: %+v, %d", y, z, wrong)
			}
			// Nothing is left to skip.
			if z, wrong := Skip(want); z != (api.Pilot{}) || wrong != api.ErrNone {
				t.Errorf("%+v: %+v, %d", want, z, wrong)
			}
		}
	}
	// What a phase does not go by stays, and does not count: it is not told in PhaseTry.
	x := api.Pilot{Mode: 3, C: api.Climb{Phase: 1, X: api.Probe{N: 1, Got: [2]int{3, 4}}, Rate: 9, B: api.Boost{Side: 1, Run: 3}, K: 4, Asked: 1}}
	want := x
	want.C.Asked, want.Gen = 0, 1
	if y, wrong := Skip(x); y != want || wrong != api.OK {
		t.Errorf("%+v, %d", y, wrong)
	}
}

func TestSkipWhatIsRefused(t *testing.T) { // P24.3
	check := func(x api.Pilot, want api.Errno) {
		t.Helper()
		if y, wrong := Skip(x); y != (api.Pilot{}) || wrong != want {
			t.Errorf("%+v: %+v, %d", x, y, wrong)
		}
	}
	for _, mode := range allModes() {
		check(starting(mode, 50000, 0), api.ErrNone)
		check(trying(mode, 50000, 0), api.ErrNone)
		check(trying(mode, 50000, 1, 7), api.ErrNone)
		check(starting(mode, 50000, 2), api.ErrArg)
		check(starting(mode, 50000, -1), api.ErrArg)
		for _, asked := range []int{0, 1} {
			x := trying(mode, 50000, asked)
			x.Gen = -1
			check(x, api.ErrArg)
			x = trying(mode, 50000, asked)
			x.Mode = 0
			check(x, api.ErrArg)
			x.Mode = 6
			check(x, api.ErrArg)
			x = trying(mode, 50000, asked)
			x.S.Phase, x.C.Phase = 1, 1
			check(x, api.ErrArg)
		}
	}
	check(moving(50000, 0), api.ErrNone)
	check(trying(1, 50000, 3, 7, 8, 9), api.ErrNone)
	check(trying(1, 50000, 5), api.ErrArg)
	check(trying(2, 50000, 3), api.ErrArg)
	check(api.Pilot{}, api.ErrArg)
}

func TestSkipWordForWord(t *testing.T) { // P24.3
	r := random(29)
	for range 100000 {
		x := r.loose()
		y, wrong := Skip(x)
		if want, why := skipOf(x); y != want || wrong != why {
			t.Fatalf("%+v: %+v, %d, not %+v, %d", x, y, wrong, want, why)
		}
	}
}

func TestSwitch(t *testing.T) { // P24.4
	s := tape(3, 2, heads)
	for _, before := range []api.Pilot{
		starting(1, 80000, 0), starting(1, 80000, 1), trying(1, 80000, 4, 1), moving(80000, 1), starting(2, 80000, 1), trying(3, 80000, 2, 8), trying(4, 80000, 0), starting(5, 80000, 0),
		{Mode: 2, C: api.Climb{Phase: 2, X: api.Probe{Base: 7, Order: du}, Start: api.Start{Rate: 3, Over: true}, Rate: 80000, B: api.Boost{Side: -1, Run: 9}, K: 8}},
	} {
		for _, mode := range allModes() {
			for _, gen := range []struct{ gen, next int }{{0, 1}, {6, 7}, {most - 1, most}, {most, 0}} {
				x := before
				x.Gen = gen.gen
				want := api.Pilot{Mode: mode, Gen: gen.next}
				draws := 1
				switch {
				case mode == x.Mode:
					want, draws = x, 0
				case mode == 1:
					want.S = api.Steer{Phase: 2, X: api.Contest{Base: 80000, Step: 1, Order: duud}, Rate: 80000, Step: 1}
				default:
					want.C = api.Climb{Phase: 2, X: api.Probe{Base: 80000, Order: du}, Rate: 80000}
				}
				// Whatever the config's mode is.
				for _, own := range []int{0, 1, 2} {
					y, u, wrong := Switch(config.Usual(own), x, mode, s)
					if y != want || u.At != draws || u.Kind != s.Kind || !slices.Equal(u.Tape, s.Tape) || wrong != api.OK || !Is(y) {
						t.Errorf("%+v, %d: %+v, %+v, %d", x, mode, y, u, wrong)
					}
				}
			}
		}
	}
}

func TestSwitchByTheBounds(t *testing.T) { // P24.4
	for _, x := range []struct {
		c                api.Config
		rate, want, base int
	}{
		{by(10000, 125000000, 50000), 10000, 10000, 10000},
		{by(10000, 125000000, 50000), 9999, 10000, 10000},
		{by(10000, 125000000, 50000), -7, 10000, 10000},
		{by(10000, 125000000, 50000), least, 10000, 10000},
		{by(10000, 125000000, 50000), 125000000, 125000000, 125000000},
		{by(10000, 125000000, 50000), 125000001, 125000000, 125000000},
		{by(10000, 125000000, 50000), most, 125000000, 125000000},
		{by(50000, 50000, 50000), 70000, 50000, 50000},
		{by(least, most, 5), least, least, least},
		{by(least, most, 5), most, most, most},
		// By bounds in the wrong order what is within them is beyond the other one: a trial bounds it once more.
		{by(20000, 10000, 15000), 15000, 20000, 10000},
		{by(20000, 10000, 15000), 25000, 10000, 20000},
		{api.Config{}, 70000, 0, 0},
	} {
		y, s, wrong := Switch(x.c, starting(3, x.rate, 0), 1, tape(2))
		want := api.Pilot{Mode: 1, Gen: 1, S: api.Steer{Phase: 2, X: api.Contest{Base: x.base, Step: 1, Order: uddu}, Rate: x.want, Step: 1}}
		if y != want || s.At != 1 || wrong != api.OK || !Is(y) {
			t.Errorf("%d: %+v, %d", x.rate, y, wrong)
		}
		for _, from := range []int{1, 2, 5} {
			y, s, wrong = Switch(x.c, starting(from, x.rate, 1), 4, tape(heads))
			want = api.Pilot{Mode: 4, Gen: 1, C: api.Climb{Phase: 2, X: api.Probe{Base: x.base, Order: ud}, Rate: x.want}}
			if y != want || s.At != 1 || wrong != api.OK || !Is(y) {
				t.Errorf("%d: %+v, %d", x.rate, y, wrong)
			}
		}
		// The rate of a pilot whose mode stays is not bounded.
		for _, mode := range allModes() {
			if z, u, wrong := Switch(x.c, starting(mode, x.rate, 1), mode, tape(2)); z != starting(mode, x.rate, 1) || !same(u, tape(2)) || wrong != api.OK {
				t.Errorf("%d: %+v, %d", x.rate, z, wrong)
			}
		}
	}
}

func TestSwitchByWhichSource(t *testing.T) { // P24.4
	c := config.Usual(api.Hybrid)
	for _, x := range []struct {
		s     api.Source
		four  [4]bool
		pair  [2]bool
		draws int
	}{
		{tape(0), uudd, du, 1}, {tape(2, 5), uddu, du, 1}, {tape(3, 5), duud, du, 1}, {tape(heads), uddu, ud, 1}, {tape(tails), udud, du, 1},
		{tape(), uudd, du, 0}, {api.Source{}, uudd, du, 0}, {api.Source{Kind: 3, At: 5}, uudd, du, 0},
	} {
		want := x.s
		want.At += x.draws
		y, s, wrong := Switch(c, starting(5, 70000, 0), 1, x.s)
		if y.S.X.Order != x.four || !same(s, want) || wrong != api.OK {
			t.Errorf("%+v: %+v, %+v, %d", x.s, y, s, wrong)
		}
		y, s, wrong = Switch(c, starting(1, 70000, 0), 5, x.s)
		if y.C.X.Order != x.pair || !same(s, want) || wrong != api.OK {
			t.Errorf("%+v: %+v, %+v, %d", x.s, y, s, wrong)
		}
	}
	// A generator draws all orders.
	s, x := draw.Pcg(42, 54), starting(2, 70000, 0)
	fours, pairs := map[[4]bool]int{}, map[[2]bool]int{}
	for range 300 {
		x, s, _ = Switch(c, x, 1, s)
		fours[x.S.X.Order]++
		x, s, _ = Switch(c, x, 2, s)
		pairs[x.C.X.Order]++
	}
	if len(fours) != 6 || len(pairs) != 2 || pairs[ud] < 100 || pairs[du] < 100 || x.Gen != 600 {
		t.Errorf("%v, %v, %+v", fours, pairs, x)
	}
}

func TestSwitchWhatIsRefused(t *testing.T) { // P24.4
	check := func(x api.Pilot, mode int, want api.Errno) {
		t.Helper()
		for _, s := range []api.Source{{}, tape(1, 2), draw.Pcg(42, 54)} {
			if y, u, wrong := Switch(config.Usual(api.Vivace), x, mode, s); y != (api.Pilot{}) || !nothing(u) || wrong != want {
				t.Errorf("%+v, %d: %+v, %+v, %d", x, mode, y, u, wrong)
			}
		}
	}
	for _, mode := range append(edges(), 2, 3) {
		for _, from := range allModes() {
			if mode < 1 || mode > 5 {
				check(trying(from, 50000, 1), mode, api.ErrMode)
			}
			x := trying(from, 50000, 1)
			x.Gen = -1
			check(x, mode, api.ErrArg)
			x = trying(from, 50000, 1)
			x.S.Asked, x.C.Asked = 9, 9
			check(x, mode, api.ErrArg)
			x = trying(from, 50000, 1)
			x.S.Start.N, x.C.Start.N = 1, 1
			check(x, mode, api.ErrArg)
		}
		// Not even where the mode is its own.
		check(api.Pilot{Mode: mode}, mode, api.ErrArg)
		check(api.Pilot{}, mode, api.ErrArg)
	}
}

func TestSwitchWordForWord(t *testing.T) { // P24.4
	r := random(30)
	check := func(c api.Config, x api.Pilot, mode int) {
		t.Helper()
		s := r.source()
		y, u, wrong := Switch(c, x, mode, s)
		if want, then, why := switchOf(c, x, mode, s); y != want || !same(u, then) || wrong != why {
			t.Fatalf("%+v, %+v, %d, %+v: %+v, %+v, %d, not %+v, %+v, %d", c, x, mode, s, y, u, wrong, want, then, why)
		}
	}
	for range 50000 {
		check(r.config(), r.loose(), r.near()+3)
		check(r.config(), r.pilot(), 1+r.below(5))
		check(r.config(), r.pilot(), r.any())
	}
	for _, c := range configs() {
		for _, rate := range edges() {
			for _, mode := range allModes() {
				check(c, starting(1, rate, 0), mode)
				check(c, trying(2, rate, 1), mode)
				check(c, trying(5, rate, 1), mode)
			}
		}
	}
}

func TestARound(t *testing.T) { // P24.1 to P24.4
	c := config.Usual(api.Vivace)
	x, _ := New(c)
	s := tape(heads, 3, tails)
	// ask tells what is asked next, and the pilot that waits for its worth.
	ask := func(want int) {
		t.Helper()
		rate, wanted, y := Ask(c, x)
		if rate != want || !wanted {
			t.Fatalf("%+v: %d, %t, not %d", x, rate, wanted, want)
		}
		x = y
	}
	// tell tells that all of a rate came through.
	tell := func(rate int) {
		t.Helper()
		y, u, wrong := Tell(c, x, api.Stats{Rate: rate, Good: rate}, s)
		if wrong != api.OK {
			t.Fatalf("%+v: %d", x, wrong)
		}
		x, s = y, u
	}
	skip := func(gen int) {
		t.Helper()
		y, wrong := Skip(x)
		if wrong != api.OK || y.Gen != gen {
			t.Fatalf("%+v: %+v, %d", x, y, wrong)
		}
		x = y
	}
	to := func(mode, gen int) {
		t.Helper()
		y, u, wrong := Switch(c, x, mode, s)
		if wrong != api.OK || y.Gen != gen || y.Mode != mode || Rate(y) != Rate(x) {
			t.Fatalf("%+v: %+v, %d", x, y, wrong)
		}
		x, s = y, u
	}
	ask(50000)
	tell(50000)
	ask(100000)
	skip(1)
	ask(100000)
	tell(40000)
	ask(50500)
	ask(49500)
	skip(2)
	ask(50500)
	tell(50500)
	ask(49500)
	to(api.Allegro, 3)
	ask(49500)
	tell(49500)
	ask(50500)
	ask(50500)
	ask(49500)
	skip(4)
	ask(50500)
	to(api.Allegro, 4)
	tell(50500)
	ask(50500)
	ask(49500)
	tell(50500)
	tell(49500)
	ask(50500)
	skip(5)
	ask(50500)
	to(api.ProteusS, 6)
	ask(49995)
	if !Is(x) || s.At != 3 || Rate(x) != 50500 {
		t.Errorf("%+v, %+v", x, s)
	}
}

func TestWhatIsRightStaysRight(t *testing.T) { // P24.5
	r := random(31)
	for range 50000 {
		c, x := r.config(), r.pilot()
		_, _, y := Ask(c, x)
		if !Is(y) {
			t.Fatalf("%+v, %+v: %+v", c, x, y)
		}
		z, _, wrong := Tell(c, y, r.stats(), r.source())
		if wrong == api.OK && !Is(z) || wrong != api.OK && wrong != api.ErrNone {
			t.Fatalf("%+v, %+v: %+v, %d", c, y, z, wrong)
		}
		if z, wrong = Skip(y); wrong == api.OK && !Is(z) || wrong != api.OK && wrong != api.ErrNone {
			t.Fatalf("%+v: %+v, %d", y, z, wrong)
		}
		if z, _, wrong = Switch(c, y, 1+r.below(5), r.source()); wrong != api.OK || !Is(z) {
			t.Fatalf("%+v, %+v: %+v, %d", c, y, z, wrong)
		}
	}
}

func TestASwitchLeavesTheRate(t *testing.T) { // P24.5
	r := random(32)
	for range 20000 {
		c, x := r.right(), r.pilot()
		c.Mode = r.near()
		rate := c.MinRate + r.below(c.MaxRate-c.MinRate+1)
		if x.Mode == 1 {
			x.S.Rate = rate
		} else {
			x.C.Rate = rate
		}
		for _, mode := range allModes() {
			y, _, wrong := Switch(c, x, mode, r.source())
			if wrong != api.OK || Rate(y) != rate || mode != x.Mode && y.S.X.Base+y.C.X.Base != rate {
				t.Fatalf("%+v, %+v, %d: %+v, %d", c, x, mode, y, wrong)
			}
		}
	}
}

func TestWhatIsSkippedIsAskedAgain(t *testing.T) { // P24.5
	r := random(33)
	// asked tells all rates that are wanted, up to the first one that is not.
	asked := func(c api.Config, x api.Pilot) ([]int, api.Pilot) {
		var l []int
		for range 9 {
			rate, wanted, y := Ask(c, x)
			if !wanted {
				return l, y
			}
			l, x = append(l, rate), y
		}
		t.Fatalf("%+v, %+v: %v", c, x, l)
		return nil, x
	}
	again := [5]int{}
	for range 50000 {
		c, x := r.config(), r.pilot()
		// From what is told on all is asked.
		from, _ := skipOf(x)
		if !Is(from) {
			from = x
		}
		rates, full := asked(c, from)
		y, wrong := Skip(full)
		if wrong != api.OK || y.Gen != genOf(full.Gen) {
			t.Fatalf("%+v, %+v: %+v, %d", c, full, y, wrong)
		}
		l, z := asked(c, y)
		full.Gen = y.Gen
		if !slices.Equal(l, rates) || z != full {
			t.Fatalf("%+v, %+v: %v, %+v, not %v", c, full, l, z, rates)
		}
		again[len(l)]++
	}
	for n, times := range again {
		if (n == 0) != (times == 0) || n > 0 && times < 1000 {
			t.Errorf("%d: %d", n, times)
		}
	}
}

// walk goes many steps of any kind, and tells how many were taken.
func walk(t *testing.T, r *random, c api.Config, steps int, check func(x, y api.Pilot)) map[string]int {
	t.Helper()
	x, wrong := New(c)
	if wrong != api.OK {
		t.Fatalf("%+v: %d", c, wrong)
	}
	s := draw.Pcg(uint64(r.size()), 1)
	all := map[string]int{}
	for range steps {
		before, kind := x, ""
		y, u, why := x, s, api.OK
		switch r.below(12) {
		case 0:
			kind = "skip"
			y, wrong = Skip(x)
			_, why = skipOf(x)
		case 1:
			kind = "switch"
			mode := r.below(8) - 1
			y, u, wrong = Switch(c, x, mode, s)
			_, _, why = switchOf(c, x, mode, s)
		case 2, 3, 4, 5, 6:
			kind, wrong = "ask", api.OK
			var rate int
			rate, _, y = Ask(c, x)
			if rate < c.MinRate || rate > c.MaxRate {
				t.Fatalf("%+v, %+v: %d", c, x, rate)
			}
		default:
			kind = "tell"
			m := r.stats()
			y, u, wrong = Tell(c, x, m, s)
			_, _, why = tellOf(c, x, m, s)
		}
		if wrong != why {
			t.Fatalf("%s: %+v, %+v: %d, not %d", kind, c, x, wrong, why)
		}
		if wrong == api.OK {
			all[kind]++
			x, s = y, u
			check(before, x)
		}
	}
	return all
}

func TestWalks(t *testing.T) { // P24.5, T2
	r := random(34)
	all := map[string]int{}
	for range 300 {
		c := r.right()
		gens := 0
		for kind, n := range walk(t, &r, c, 400, func(x, y api.Pilot) {
			if !Is(y) || Rate(y) < c.MinRate || Rate(y) > c.MaxRate {
				t.Fatalf("%+v, %+v: %+v", c, x, y)
			}
			// Gen counts what is begun anew, and no less than that changes the mode.
			if y.Gen != x.Gen {
				gens++
			}
			if y.Gen != gens || x.Mode != y.Mode && (y.Gen == x.Gen || Rate(y) != Rate(x)) {
				t.Fatalf("%+v, %+v: %+v", c, x, y)
			}
		}) {
			all[kind] += n
		}
	}
	for _, kind := range []string{"skip", "switch", "ask", "tell"} {
		if all[kind] < 2000 {
			t.Errorf("%s: %d", kind, all[kind])
		}
	}
}

func TestWhatIsHandedInStays(t *testing.T) { // R2
	l := []uint64{heads, 3, tails, 2, 1, 0}
	s := draw.Tape(l)
	c := config.Usual(api.Allegro)
	x := trying(api.Allegro, 100000, 4, 1, 2, 3)
	y, u, _ := Tell(c, x, interval(1000000), s)
	again, v, _ := Tell(c, x, interval(1000000), s)
	if y != again || !same(u, v) || s.At != 0 || x != trying(api.Allegro, 100000, 4, 1, 2, 3) {
		t.Errorf("%+v, %+v", y, again)
	}
	y, u, _ = Switch(c, x, api.Hybrid, s)
	again, v, _ = Switch(c, x, api.Hybrid, s)
	if y != again || !same(u, v) || u.At != 1 || s.At != 0 || !slices.Equal(l, []uint64{heads, 3, tails, 2, 1, 0}) {
		t.Errorf("%+v, %+v", y, again)
	}
}

func TestNothingElseCounts(t *testing.T) { // P24.2, P24.4
	r := random(35)
	for range 20000 {
		c, x, m, s, mode := r.config(), r.loose(), r.stats(), r.source(), r.near()+3
		other := c
		other.Mode, other.StartRate, other.Packet, other.Burst, other.Ring, other.MiMin, other.MiMax, other.Timeout = r.any(), r.any(), r.any(), r.any(), r.any(), r.any(), r.any(), r.any()
		n := m
		n.Mean, n.N = r.any(), r.any()
		y, u, wrong := Tell(c, x, m, s)
		z, v, why := Tell(other, x, n, s)
		if y != z || !same(u, v) || wrong != why {
			t.Fatalf("%+v, %+v, %+v", c, x, m)
		}
		y, u, wrong = Switch(c, x, mode, s)
		z, v, why = Switch(other, x, mode, s)
		if y != z || !same(u, v) || wrong != why {
			t.Fatalf("%+v, %+v, %d", c, x, mode)
		}
		rate, wanted, y := Ask(c, x)
		if again, is, z := Ask(other, x); rate != again || wanted != is || y != z {
			t.Fatalf("%+v, %+v", c, x)
		}
	}
}

func TestARightTrialIsRight(t *testing.T) { // P24.4
	r := random(36)
	for range 20000 {
		c, x := r.config(), r.pilot()
		y, _, _ := Switch(c, x, 1, r.source())
		z, _, _ := Switch(c, x, 2+r.below(4), r.source())
		if x.Mode != 1 && (!contest.Is(y.S.X) || y.S.X.N != 0 || y.S.X.Step != 1 || y.S.Asked != 0 || y.C != api.Climb{}) {
			t.Fatalf("%+v, %+v: %+v", c, x, y)
		}
		if z.Mode != x.Mode && (!probe.Is(z.C.X) || z.C.X.N != 0 || z.C.B != api.Boost{} || z.C.K != 0 || z.C.Asked != 0 || z.S != api.Steer{}) {
			t.Fatalf("%+v, %+v: %+v", c, x, z)
		}
	}
}
