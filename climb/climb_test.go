package climb

import (
	"math"
	"slices"
	"testing"

	"pacemaker/api"
	"pacemaker/boost"
	"pacemaker/config"
	"pacemaker/draw"
	"pacemaker/fence"
	"pacemaker/fix"
	"pacemaker/order"
	"pacemaker/probe"
	"pacemaker/startup"
	"pacemaker/vivace"
)

const (
	most  = math.MaxInt
	least = math.MinInt
	one   = 1048576
)

// Both orders of a pair, and the numbers of a tape by which they are drawn.
var (
	ud = [2]bool{true, false} // heads
	du = [2]bool{false, true} // tails
)

const (
	heads = 1 << 31
	tails = 1<<31 - 1
)

func tape(l ...uint64) api.Source { return draw.Tape(l) }

// same tells whether two sources are at the same place, and will draw the same.
func same(a, b api.Source) bool {
	return a.Kind == b.Kind && a.State == b.State && a.Inc == b.Inc && a.At == b.At && slices.Equal(a.Tape, b.Tape)
}

func usual() api.Config { return config.Usual(api.Vivace) }

// by is a usual config, but with these rates.
func by(low, high, start int) api.Config {
	c := usual()
	c.MinRate, c.MaxRate, c.StartRate = low, high, start
	return c
}

// parts is a usual config, but with these parts of a rate, and this gain.
func parts(eps, omega, widen, gain int) api.Config {
	c := usual()
	c.Eps, c.Omega, c.Widen, c.Gain = eps, omega, widen, gain
	return c
}

// configs are right ones, and others, whose rates are far apart, near, the same, in the wrong order, and at all ends, and whose parts of rates, and gains, are, too.
func configs() []api.Config {
	var l []api.Config
	for _, x := range [][3]int{
		{10000, 125000000, 50000}, {1000, 1000000000, 1000}, {50000, 50000, 50000}, {10001, 10002, 10001}, {20000, 10000, 15000}, {0, 0, 0}, {0, 100, 50}, {-5, 5, 1}, {-1000, -10, -20},
		{least, most, 1}, {most, least, 0}, {least, least, 5}, {most, most, 5}, {1, most, 1}, {0, most, api.Top - 1}, {-api.Top - 1, 0, -api.Top},
	} {
		l = append(l, by(x[0], x[1], x[2]))
	}
	for _, x := range [][4]int{
		{1, 1, 0, 1}, {262144, 524288, 524288, 1 << 40}, {10486, 1, 1, one}, {10486, 0, 0, one}, {0, 52429, 52429, one}, {-10486, 52429, 52429, one}, {one, one, one, one}, {least, least, least, least}, {most, most, most, most},
		{10486, -5, 5, -one}, {10486, 52429, least, 0}, {10486, 52429, -1, most}, {10486, most, 1, least},
	} {
		l = append(l, parts(x[0], x[1], x[2], x[3]))
	}
	return l
}

// edges are 0, the ends of all kinds, what is beside them, and some others.
func edges() []int {
	l := []int{least, least + 1, most - 1, most}
	for _, n := range []int{0, 2, 63, 200, 10000, 50000, 125000000, 1 << 40, api.Top} {
		for beside := -1; beside <= 1; beside++ {
			l = append(l, n+beside, -n+beside)
		}
	}
	slices.Sort(l)
	return slices.Compact(l)
}

// random makes the same numbers at each run.
type random uint64

func (r *random) below(n int) int {
	*r = *r*6364136223846793005 + 1442695040888963407
	return int(uint64(*r)>>33) % n
}

// size is any int that is not below 0, small or great.
func (r *random) size() int {
	return (r.below(1<<31)<<32 | r.below(1<<31)<<1 | r.below(2)) >> r.below(63)
}

// any is any int, small or great, of both signs.
func (r *random) any() int {
	n := r.size()
	if r.below(2) == 0 {
		return ^n
	}
	return n
}

// near is one of few numbers, so that some are the same.
func (r *random) near() int { return r.below(7) - 3 }

// worth is any fixed number that is not too great, of both signs.
func (r *random) worth() int { return (r.below(1<<30) - 1<<29) >> r.below(30) }

// source is one of any kind.
func (r *random) source() api.Source {
	switch r.below(4) {
	case 0:
		return tape(uint64(r.size()), uint64(r.size()))
	case 1:
		return api.Source{Kind: r.near() + 4, At: r.near()}
	}
	return draw.Pcg(uint64(r.size()), uint64(r.size()))
}

// right is a right config with any rates, parts of rates, and worths.
func (r *random) right() api.Config {
	c := config.Usual(1 + r.below(5))
	c.MinRate = 1000 + r.below(1000000000-999)>>r.below(30)
	c.MaxRate = c.MinRate + r.below(1000000001-c.MinRate)>>r.below(30)
	c.StartRate = c.MinRate + r.below(c.MaxRate-c.MinRate+1)>>r.below(30)
	c.Steps = 1
	c.Eps = 1 + r.below(262144)>>r.below(18)
	c.Omega, c.Widen = 1+r.below(524288)>>r.below(19), r.below(524289)>>r.below(20)
	c.Gain = 1 + r.below(1<<30)<<10>>r.below(25)
	c.Power, c.Lag, c.Loss = 1+r.below(1048576)>>r.below(20), r.size()>>23, r.size()>>23
	return c
}

// strange is any config, right or not.
func (r *random) strange() api.Config {
	c := by(r.any(), r.any(), r.any())
	c.Eps, c.Omega, c.Widen, c.Gain, c.Power, c.Lag, c.Loss = r.any(), r.any(), r.any(), r.any(), r.any(), r.any(), r.any()
	if r.below(2) == 0 {
		c.Eps, c.Omega, c.Widen, c.Gain = r.below(300000), r.below(524288), r.below(524288), r.below(1<<25)
	}
	return c
}

// config is one of both.
func (r *random) config() api.Config {
	if r.below(2) == 0 {
		return r.right()
	}
	return r.strange()
}

// probe is a right probe, told so many times.
func (r *random) probe(n int) api.Probe {
	x := api.Probe{Base: r.below(1000000000) >> r.below(20), Order: [2]bool{true, false}, N: n}
	if r.below(2) == 0 {
		x.Order = [2]bool{false, true}
	}
	for i := range n {
		x.Got[i] = r.near() << r.below(30)
	}
	return x
}

// boost is a right one.
func (r *random) boost() api.Boost {
	side := r.below(3) - 1
	if side == 0 {
		return api.Boost{}
	}
	return api.Boost{Side: side, Run: 1 + r.below(63)>>r.below(6)}
}

// fences is how often in a row a fence was met.
func (r *random) fences() int {
	if r.below(2) == 0 {
		return r.below(12)
	}
	return most - r.size()>>r.below(63)
}

// climb is a right one, and what its phase does not go by is anything.
func (r *random) climb() api.Climb {
	x := api.Climb{Phase: 1 + r.below(2), Rate: r.below(1000000000) >> r.below(20), B: r.boost(), K: r.fences(), Asked: r.below(2)}
	x.Start = api.Start{Rate: r.below(1000000000), Best: r.below(1000000000), Last: r.near(), N: r.below(3), Over: r.below(2) == 0}
	x.X = r.probe(r.below(3))
	switch x.Phase {
	case api.PhaseStart:
		x.Start.Over = false
	case api.PhaseTry:
		x.X = r.probe(r.below(2))
		x.Asked = x.X.N + r.below(3-x.X.N)
	}
	if r.below(3) > 0 {
		x.X.Base = x.Rate
	}
	return x
}

// loose is a climb that may be wrong in any way.
func (r *random) loose() api.Climb {
	x := r.climb()
	switch r.below(11) {
	case 0:
		x.Phase = r.near()
	case 1:
		x.Asked = r.near() + 2
	case 2:
		x.Asked = r.any()
	case 3:
		x.K = r.near()
	case 4:
		x.K = r.any()
	case 5:
		x.B = api.Boost{Side: r.near(), Run: r.near()}
	case 6:
		x.B.Run = 60 + r.below(7)
	case 7:
		x.X.N = r.near() + 1
	case 8:
		x.X.Order = [2]bool{r.below(2) == 0, r.below(2) == 0}
	case 9:
		x.Start.Over = true
	}
	return x
}

// isOf is what the chapter calls right, word for word.
func isOf(x api.Climb) bool {
	if x.Phase != 1 && x.Phase != 2 || !boost.Is(x.B) || x.K < 0 {
		return false
	}
	if x.Phase == 1 {
		return !x.Start.Over && (x.Asked == 0 || x.Asked == 1)
	}
	return probe.Is(x.X) && x.X.N < 2 && x.Asked >= x.X.N && x.Asked <= 2
}

// askOf is P23.2 word for word.
func askOf(c api.Config, x api.Climb) (int, bool, api.Climb) {
	rate, wanted := x.Rate, false
	if isOf(x) {
		switch {
		case x.Phase == 1:
			rate, wanted = x.Start.Rate, x.Asked == 0
		case x.Asked < 2:
			rate, wanted = probe.Rates(c, x.X)[x.Asked], true
		}
	}
	if wanted {
		x.Asked++
	}
	return rate, wanted, x
}

// tryOf is what the chapter calls to try a rate, word for word.
func tryOf(c api.Config, x api.Climb, rate int, s api.Source) (api.Climb, api.Source) {
	pair, behind := order.Pair(s)
	trial, wrong := probe.New(c, rate, pair)
	if wrong != api.OK {
		panic(wrong)
	}
	return api.Climb{Phase: 2, Start: x.Start, X: trial, Rate: rate, B: x.B, K: x.K, Asked: 0}, behind
}

// tellOf is P23.3 word for word.
func tellOf(c api.Config, x api.Climb, worth int, s api.Source) (api.Climb, api.Source, api.Errno) {
	if !isOf(x) {
		return api.Climb{}, api.Source{}, api.ErrArg
	}
	if x.Phase == 1 && x.Asked == 0 || x.Phase == 2 && x.Asked == x.X.N {
		return api.Climb{}, api.Source{}, api.ErrNone
	}
	switch x.Phase {
	case 1:
		x.Start = startup.Next(c, x.Start, worth)
		x.Rate, x.Asked = x.Start.Rate, 0
		if x.Start.Over {
			x, s = tryOf(c, x, x.Rate, s)
		}
	case 2:
		x.X, _ = probe.Tell(x.X, worth)
		if x.X.N < 2 {
			break
		}
		grade := probe.Grade(c, x.X)
		b := boost.Next(x.B, probe.Side(grade))
		rate, k := fence.Move(c, x.K, x.Rate, boost.Change(c, b, grade))
		x, s = tryOf(c, api.Climb{Start: x.Start, B: b, K: k}, rate, s)
	}
	return x, s, api.OK
}

// loopOf is P23.4 word for word.
func loopOf(c api.Config, room, times int, s api.Source) ([]int, api.Climb) {
	x := api.Climb{Phase: 1, Start: startup.New(c), Rate: startup.New(c).Rate}
	var rates []int
	for n := 0; n < times && n < 200; n++ {
		rate, wanted, y := askOf(c, x)
		if wanted {
			y, s, _ = tellOf(c, y, vivace.Model(c, rate, room), s)
		}
		rates, x = append(rates, rate), y
	}
	return rates, x
}

// told is a climb that asks, and is told what that was worth, again and again; and the rates that it asks.
func told(t *testing.T, c api.Config, x api.Climb, s api.Source, worths ...int) ([]int, api.Climb, api.Source) {
	t.Helper()
	var rates []int
	for _, worth := range worths {
		rate, wanted, y := Ask(c, x)
		if !wanted {
			t.Fatalf("%+v: %d is not wanted", x, rate)
		}
		y, u, wrong := Tell(c, y, worth, s)
		if wrong != api.OK || !Is(y) {
			t.Fatalf("%+v, %d: %+v, %d", x, worth, y, wrong)
		}
		rates, x, s = append(rates, rate), y, u
	}
	return rates, x, s
}

func TestTheChaptersExamples(t *testing.T) { // P23.4
	asked, _ := Loop(usual(), 200000, 6, api.Source{})
	if !slices.Equal(asked, []int{50000, 100000, 200000, 400000, 198000, 202000}) {
		t.Errorf("%v", asked)
	}
}

func TestIsWhileStarting(t *testing.T) { // P23.1
	wrong := api.Probe{Base: least, N: 99}
	for _, x := range []struct {
		x    api.Climb
		want bool
	}{
		{api.Climb{}, false},
		{api.Climb{Phase: 1}, true},
		{api.Climb{Phase: 1, Asked: 1}, true},
		{api.Climb{Phase: 1, Asked: 2}, false},
		{api.Climb{Phase: 1, Asked: -1}, false},
		{api.Climb{Phase: 1, Asked: most}, false},
		{api.Climb{Phase: 1, Asked: least}, false},
		{api.Climb{Phase: 1, X: api.Probe{Order: ud}, Asked: 2}, false},
		{api.Climb{Phase: 1, Start: api.Start{Over: true}}, false},
		{api.Climb{Phase: 1, Start: api.Start{Over: true}, Asked: 1}, false},
		{api.Climb{Phase: 1, Start: api.Start{Over: true}, X: api.Probe{Order: ud}}, false},
		// What its phase does not go by may be anything.
		{api.Climb{Phase: 1, Start: api.Start{Rate: least, Best: most, Last: least, N: -9}, X: wrong, Rate: -5}, true},
	} {
		if Is(x.x) != x.want {
			t.Errorf("%+v: not %t", x.x, x.want)
		}
	}
}

func TestIsWhileTrying(t *testing.T) { // P23.1
	for n := range 2 {
		x := api.Climb{Phase: 2, X: api.Probe{Base: 5, Order: du, N: n}}
		for _, x.Asked = range edges() {
			if want := x.Asked >= n && x.Asked <= 2; Is(x) != want {
				t.Errorf("%+v: not %t", x, want)
			}
		}
	}
	for _, x := range []struct {
		x    api.Climb
		want bool
	}{
		{api.Climb{Phase: 2}, false}, // a probe of 0 is not right
		{api.Climb{Phase: 2, X: api.Probe{Order: ud}}, true},
		{api.Climb{Phase: 2, X: api.Probe{Order: du}}, true},
		{api.Climb{Phase: 2, X: api.Probe{Order: [2]bool{true, true}}}, false},
		{api.Climb{Phase: 2, X: api.Probe{Order: ud, Got: [2]int{1}}}, false},
		{api.Climb{Phase: 2, X: api.Probe{Order: ud, Got: [2]int{0, 1}}, Asked: 2}, false},
		{api.Climb{Phase: 2, X: api.Probe{Order: ud, N: 1, Got: [2]int{1}}, Asked: 1}, true},
		{api.Climb{Phase: 2, X: api.Probe{Order: ud, N: 1, Got: [2]int{1, 1}}, Asked: 1}, false},
		{api.Climb{Phase: 2, X: api.Probe{Order: ud, N: 2}, Asked: 2}, false}, // a whole one is none to try
		{api.Climb{Phase: 2, X: api.Probe{Order: ud, N: 3}, Asked: 2}, false},
		{api.Climb{Phase: 2, X: api.Probe{Order: ud, N: -1}, Asked: 1}, false},
		{api.Climb{Phase: 2, X: api.Probe{Order: ud, N: -1}, Asked: -1}, false},
		{api.Climb{Phase: 2, X: api.Probe{Order: ud, N: least}}, false},
		// What its phase does not go by may be anything.
		{api.Climb{Phase: 2, X: api.Probe{Base: least, Order: ud}, Start: api.Start{Rate: -7, Over: true}, Rate: most}, true},
		{api.Climb{Phase: 2, X: api.Probe{Base: most, Order: du}, Start: api.Start{N: -7}, Rate: least}, true},
	} {
		if Is(x.x) != x.want {
			t.Errorf("%+v: not %t", x.x, x.want)
		}
	}
}

func TestIsInNoOtherPhase(t *testing.T) { // P23.1
	for _, phase := range append(edges(), 4, 5) {
		for asked := -1; asked <= 3; asked++ {
			x := api.Climb{Phase: phase, X: api.Probe{Order: ud}, Asked: asked}
			if want := phase == 1 && (asked == 0 || asked == 1) || phase == 2 && asked >= 0 && asked <= 2; Is(x) != want {
				t.Errorf("%+v: not %t", x, want)
			}
		}
	}
}

func TestIsByWhatItGoesOnBy(t *testing.T) { // P23.1
	for phase := 1; phase <= 2; phase++ {
		x := api.Climb{Phase: phase, X: api.Probe{Order: ud}}
		for _, x.K = range edges() {
			if want := x.K >= 0; Is(x) != want {
				t.Errorf("%+v: not %t", x, want)
			}
		}
		x.K = 0
		for _, x.B.Side = range edges() {
			for _, x.B.Run = range edges() {
				want := x.B == api.Boost{} || (x.B.Side == 1 || x.B.Side == -1) && x.B.Run >= 1 && x.B.Run <= 63
				if Is(x) != want {
					t.Errorf("%+v: not %t", x, want)
				}
			}
		}
	}
}

func TestIsWordForWord(t *testing.T) { // P23.1
	r := random(23)
	rights := 0
	for range 100000 {
		x := r.loose()
		if Is(x) != isOf(x) {
			t.Fatalf("%+v: not %t", x, isOf(x))
		}
		if y := r.climb(); !Is(y) {
			t.Fatalf("%+v", y)
		}
		if Is(x) {
			rights++
		}
	}
	if rights < 20000 || rights > 80000 {
		t.Errorf("%d", rights)
	}
}

func TestNew(t *testing.T) { // P23.1
	if x := New(usual()); x != (api.Climb{Phase: 1, Start: api.Start{Rate: 50000}, Rate: 50000}) {
		t.Errorf("%+v", x)
	}
	for _, x := range []struct{ low, high, start, want int }{
		{10000, 125000000, 9999, 10000},
		{10000, 125000000, least, 10000},
		{10000, 125000000, 125000001, 125000000},
		{10000, 125000000, most, 125000000},
		{20000, 10000, 15000, 20000}, // bounds in the wrong order: the lower one first
		{-30, -10, 5, -10},
	} {
		if y := New(by(x.low, x.high, x.start)); y != (api.Climb{Phase: 1, Start: api.Start{Rate: x.want}, Rate: x.want}) {
			t.Errorf("%+v: %+v", x, y)
		}
	}
	for _, c := range configs() {
		if x := New(c); x != (api.Climb{Phase: 1, Start: startup.New(c), Rate: startup.New(c).Rate}) || !Is(x) {
			t.Errorf("%+v: %+v", c, x)
		}
	}
}

func TestFrom(t *testing.T) { // P23.1
	for _, x := range []struct {
		c                api.Config
		rate, want, base int
	}{
		{usual(), 100000, 100000, 100000},
		{usual(), 10000, 10000, 10000},
		{usual(), 9999, 10000, 10000},
		{usual(), 0, 10000, 10000},
		{usual(), least, 10000, 10000},
		{usual(), 125000000, 125000000, 125000000},
		{usual(), 125000001, 125000000, 125000000},
		{usual(), most, 125000000, 125000000},
		{by(50000, 50000, 50000), 7, 50000, 50000},
		{by(-30, -10, 5), 5, -10, -10},
		{by(least, most, 5), least, least, least},
		{by(least, most, 5), most, most, most},
		// By bounds in the wrong order what is within them is beyond the other one.
		{by(20000, 10000, 15000), 15000, 20000, 10000},
		{by(20000, 10000, 15000), 25000, 10000, 20000},
	} {
		for _, s := range []struct {
			s     api.Source
			order [2]bool
			draws int
		}{{tape(heads, 7), ud, 1}, {tape(tails, 7), du, 1}, {tape(1<<32 - 1), ud, 1}, {tape(0), du, 1}, {tape(), du, 0}, {api.Source{}, du, 0}, {api.Source{Kind: 3, At: 5}, du, 0}} {
			y, u := From(x.c, x.rate, s.s)
			want := s.s
			want.At += s.draws
			if y != (api.Climb{Phase: 2, X: api.Probe{Base: x.base, Order: s.order}, Rate: x.want}) || !same(u, want) || !Is(y) {
				t.Errorf("%+v, %d, %+v: %+v, %+v", x.c, x.rate, s.s, y, u)
			}
		}
	}
}

func TestFromWordForWord(t *testing.T) { // P23.1
	check := func(c api.Config, rate int, s api.Source) {
		t.Helper()
		x, u := From(c, rate, s)
		if want, then := tryOf(c, api.Climb{}, config.Bound(c, rate), s); x != want || !same(u, then) || !Is(x) {
			t.Fatalf("%+v, %d, %+v: %+v, %+v", c, rate, s, x, u)
		}
	}
	r := random(24)
	for _, c := range configs() {
		for _, rate := range edges() {
			check(c, rate, r.source())
		}
	}
	for range 20000 {
		check(r.config(), r.any(), r.source())
	}
	s := draw.Pcg(42, 54)
	orders := map[[2]bool]int{}
	for range 100 {
		var x api.Climb
		x, s = From(usual(), 100000, s)
		orders[x.X.Order]++
	}
	if orders[ud] < 30 || orders[du] < 30 {
		t.Errorf("%v", orders)
	}
}

func TestAskWhileStarting(t *testing.T) { // P23.2
	x := api.Climb{Phase: 1, Start: api.Start{Rate: 70000, Best: 5}, Rate: 3, B: api.Boost{Side: 1, Run: 4}, K: 4}
	rate, wanted, y := Ask(usual(), x)
	x.Asked = 1
	if rate != 70000 || !wanted || y != x {
		t.Errorf("%d, %t, %+v", rate, wanted, y)
	}
	if rate, wanted, y = Ask(usual(), x); rate != 70000 || wanted || y != x {
		t.Errorf("%d, %t, %+v", rate, wanted, y)
	}
	// The rate is told as it is, whatever the bounds are.
	x = api.Climb{Phase: 1, Start: api.Start{Rate: -8}}
	if rate, wanted, _ = Ask(usual(), x); rate != -8 || !wanted {
		t.Errorf("%d, %t", rate, wanted)
	}
}

func TestAskWhileTrying(t *testing.T) { // P23.2
	for _, o := range []struct {
		order [2]bool
		rates []int
	}{{ud, []int{101000, 99000}}, {du, []int{99000, 101000}}} {
		x := api.Climb{Phase: 2, Start: api.Start{Rate: 8}, X: api.Probe{Base: 100000, Order: o.order}, Rate: 70000, B: api.Boost{Side: -1, Run: 4}, K: 4}
		for told := range 2 {
			y := x
			for _, want := range o.rates[told:] {
				rate, wanted, z := Ask(usual(), y)
				y.Asked++
				if rate != want || !wanted || z != y {
					t.Errorf("%+v: %d, %t, %+v", y, rate, wanted, z)
				}
			}
			// Both of them were asked: meanwhile the rate is kept.
			for range 3 {
				if rate, wanted, z := Ask(usual(), y); rate != 70000 || wanted || z != y {
					t.Errorf("%+v: %d, %t, %+v", y, rate, wanted, z)
				}
			}
			x.X.Got[0], x.X.N, x.Asked = 7, 1, 1
		}
	}
}

func TestAskWhatIsWrong(t *testing.T) { // P23.2
	trial := api.Probe{Base: 100000, Order: du}
	for _, x := range []api.Climb{
		{},
		{Phase: 1, Start: api.Start{Rate: 5, Over: true}},
		{Phase: 1, Start: api.Start{Rate: 5}, Asked: -1},
		{Phase: 1, Start: api.Start{Rate: 5}, Asked: 2},
		{Phase: 1, Start: api.Start{Rate: 5}, K: -1},
		{Phase: 1, Start: api.Start{Rate: 5}, B: api.Boost{Run: 1}},
		{Phase: 2},
		{Phase: 2, X: trial, Asked: -1},
		{Phase: 2, X: trial, Asked: least},
		{Phase: 2, X: trial, Asked: 3},
		{Phase: 2, X: trial, K: -1},
		{Phase: 2, X: trial, B: api.Boost{Side: 1}},
		{Phase: 2, X: api.Probe{Base: 100000, Order: du, N: 1}},
		{Phase: 2, X: api.Probe{Base: 100000, Order: du, N: 2}, Asked: 2},
		{Phase: 2, X: api.Probe{Base: 100000, Order: [2]bool{true, true}}},
		{Phase: 3, X: trial},
		{Phase: 3, X: trial, Start: api.Start{Rate: 5}, Asked: 1},
		{Phase: least, X: trial},
	} {
		for _, x.Rate = range []int{7, 0, least, most} {
			if rate, wanted, y := Ask(usual(), x); rate != x.Rate || wanted || y != x {
				t.Errorf("%+v: %d, %t, %+v", x, rate, wanted, y)
			}
		}
	}
}

func TestAskWordForWord(t *testing.T) { // P23.2
	r := random(25)
	for range 50000 {
		c, x := r.config(), r.loose()
		rate, wanted, y := Ask(c, x)
		if want, is, then := askOf(c, x); rate != want || wanted != is || y != then {
			t.Fatalf("%+v, %+v: %d, %t, %+v, not %d, %t, %+v", c, x, rate, wanted, y, want, is, then)
		}
	}
}

// step is what a climb is told, by what source, and what comes of it.
type step struct {
	x     api.Climb
	worth int
	s     api.Source
	want  api.Climb
	// draws is how many the source made.
	draws int
}

func (x step) check(t *testing.T, c api.Config) {
	t.Helper()
	y, s, wrong := Tell(c, x.x, x.worth, x.s)
	if y != x.want || wrong != api.OK || s.At != x.s.At+x.draws || s.Kind != x.s.Kind || !slices.Equal(s.Tape, x.s.Tape) {
		t.Errorf("%+v, %d: %+v, not %+v; %+v, %d", x.x, x.worth, y, x.want, s, wrong)
	}
	if !Is(y) {
		t.Errorf("%+v, %d: %+v", x.x, x.worth, y)
	}
}

func TestTellWhileStarting(t *testing.T) { // P23.3
	s := tape(heads, tails)
	sure := api.Boost{Side: -1, Run: 5}
	going := api.Start{Rate: 100000, Best: 50000, Last: 7, N: 1}
	over := api.Start{Rate: 50000, Best: 50000, Last: 7, N: 1, Over: true}
	highest := api.Start{Rate: 125000000, Best: 102400000, Last: 7, N: 3}
	for _, x := range []step{
		{api.Climb{Phase: 1, Start: api.Start{Rate: 50000}, Rate: 50000, Asked: 1}, -9, s,
			api.Climb{Phase: 1, Start: api.Start{Rate: 100000, Best: 50000, Last: -9, N: 1}, Rate: 100000}, 0},
		{api.Climb{Phase: 1, Start: going, Rate: 100000, Asked: 1}, 8, s,
			api.Climb{Phase: 1, Start: api.Start{Rate: 200000, Best: 100000, Last: 8, N: 2}, Rate: 200000}, 0},
		// It is the starting phase's rate that counts, and all else stays.
		{api.Climb{Phase: 1, Start: going, X: api.Probe{N: 9}, Rate: 3, B: sure, K: 4, Asked: 1}, 8, s,
			api.Climb{Phase: 1, Start: api.Start{Rate: 200000, Best: 100000, Last: 8, N: 2}, X: api.Probe{N: 9}, Rate: 200000, B: sure, K: 4}, 0},
		{api.Climb{Phase: 1, Start: going, Rate: 100000, Asked: 1}, 7, s,
			api.Climb{Phase: 2, Start: over, X: api.Probe{Base: 50000, Order: ud}, Rate: 50000}, 1},
		{api.Climb{Phase: 1, Start: going, Rate: 100000, Asked: 1}, least, tape(tails, heads),
			api.Climb{Phase: 2, Start: over, X: api.Probe{Base: 50000, Order: du}, Rate: 50000}, 1},
		{api.Climb{Phase: 1, Start: going, Rate: 100000, Asked: 1}, least, api.Source{},
			api.Climb{Phase: 2, Start: over, X: api.Probe{Base: 50000, Order: du}, Rate: 50000}, 0},
		{api.Climb{Phase: 1, Start: going, X: api.Probe{N: 9, Got: [2]int{1, 2}}, Rate: 3, B: sure, K: 4, Asked: 1}, 0, s,
			api.Climb{Phase: 2, Start: over, X: api.Probe{Base: 50000, Order: ud}, Rate: 50000, B: sure, K: 4}, 1},
		// At the greatest rate it is over when that is better, too.
		{api.Climb{Phase: 1, Start: highest, Rate: 125000000, Asked: 1}, 8, s,
			api.Climb{Phase: 2, Start: api.Start{Rate: 125000000, Best: 125000000, Last: 8, N: 4, Over: true}, X: api.Probe{Base: 125000000, Order: ud}, Rate: 125000000}, 1},
		{api.Climb{Phase: 1, Start: highest, Rate: 125000000, Asked: 1}, 7, s,
			api.Climb{Phase: 2, Start: api.Start{Rate: 102400000, Best: 102400000, Last: 7, N: 3, Over: true}, X: api.Probe{Base: 102400000, Order: ud}, Rate: 102400000}, 1},
		// The rate is as it is; what is tried about it is within the bounds.
		{api.Climb{Phase: 1, Start: api.Start{Rate: 8, Best: 5, Last: 7, N: 1}, Asked: 1}, 6, s,
			api.Climb{Phase: 2, Start: api.Start{Rate: 5, Best: 5, Last: 7, N: 1, Over: true}, X: api.Probe{Base: 10000, Order: ud}, Rate: 5}, 1},
	} {
		x.check(t, usual())
	}
}

// trying is a climb whose probe about 100000 was told some worths, and had both of its rates asked.
func trying(order [2]bool, got ...int) api.Climb {
	x := api.Probe{Base: 100000, Order: order, N: len(got)}
	copy(x.Got[:], got)
	return api.Climb{Phase: 2, Start: api.Start{Rate: 8, Over: true}, X: x, Rate: 100000, Asked: 2}
}

// at is a climb of trying that tries a rate, by an order of heads, as sure of a side as it is, with a fence that was met so often.
func at(rate int, b api.Boost, k int) api.Climb {
	return api.Climb{Phase: 2, Start: api.Start{Rate: 8, Over: true}, X: api.Probe{Base: rate, Order: ud}, Rate: rate, B: b, K: k}
}

func TestTellTheFirstWorth(t *testing.T) { // P23.3
	for _, worth := range []int{7, 0, -1, least, most} {
		for asked := 1; asked <= 2; asked++ {
			// What was asked stays asked, and all else stays.
			x, want := trying(du), trying(du, worth)
			x.Asked, x.B, x.K, x.Rate = asked, api.Boost{Side: 1, Run: 9}, 5, 70000
			want.Asked, want.B, want.K, want.Rate = x.Asked, x.B, x.K, x.Rate
			step{x, worth, tape(heads), want, 0}.check(t, usual())
		}
	}
}

func TestTellWhereItGoes(t *testing.T) { // P23.3
	none := api.Boost{}
	for _, x := range []struct {
		b     api.Boost
		grade int
		want  api.Boost
		rate  int
	}{
		{none, one, api.Boost{Side: 1, Run: 1}, 101000},
		{none, -one, api.Boost{Side: -1, Run: 1}, 99000},
		{none, 2 * one, api.Boost{Side: 1, Run: 1}, 102000},
		{none, -one / 2, api.Boost{Side: -1, Run: 1}, 99500},
		{none, 0, none, 100000},
		// As sure as it was, and once more.
		{api.Boost{Side: 1, Run: 1}, one, api.Boost{Side: 1, Run: 2}, 101500},
		{api.Boost{Side: -1, Run: 1}, -one, api.Boost{Side: -1, Run: 2}, 98500},
		{api.Boost{Side: 1, Run: 3}, one, api.Boost{Side: 1, Run: 4}, 102500},
		{api.Boost{Side: 1, Run: 62}, one / 16, api.Boost{Side: 1, Run: 63}, 102000},
		{api.Boost{Side: -1, Run: 63}, -one / 16, api.Boost{Side: -1, Run: 63}, 98000},
		// Another side begins anew; neither side ends it.
		{api.Boost{Side: -1, Run: 9}, one, api.Boost{Side: 1, Run: 1}, 101000},
		{api.Boost{Side: 1, Run: 63}, -one, api.Boost{Side: -1, Run: 1}, 99000},
		{api.Boost{Side: 1, Run: 63}, 0, none, 100000},
		{api.Boost{Side: -1, Run: 1}, 0, none, 100000},
		// What is too little to move it counts as a side nonetheless.
		{none, 1, api.Boost{Side: 1, Run: 1}, 100000},
		{api.Boost{Side: -1, Run: 1}, -1, api.Boost{Side: -1, Run: 2}, 100000},
	} {
		for _, down := range []int{0, 5, -7 * one} {
			// The rates that are tried are 2 units apart.
			up := down + 2*x.grade
			before := trying(ud, up)
			before.B = x.b
			step{before, down, tape(heads), at(x.rate, x.want, 0), 1}.check(t, usual())
			before = trying(du, down)
			before.B = x.b
			step{before, up, tape(heads), at(x.rate, x.want, 0), 1}.check(t, usual())
			// A fence that was met, and is not now, is as it was.
			before.K = 3
			step{before, up, tape(heads), at(x.rate, x.want, 0), 1}.check(t, usual())
		}
	}
}

func TestTellByWhichGain(t *testing.T) { // P23.3
	for _, x := range []struct{ gain, grade, run, rate int }{
		{2 * one, one, 1, 102000},
		{one / 2, one, 1, 100500},
		{one / 2, -one, -1, 99500},
		{1, one, 1, 100000},
		// By a gain that is not right it goes to the other side, or nowhere.
		{0, one, 1, 100000},
		{-one, one, 1, 99000},
	} {
		c := parts(10486, 52429, 52429, x.gain)
		b := api.Boost{Side: x.run, Run: 1}
		step{trying(ud, 2*x.grade), 0, tape(heads), at(x.rate, b, 0), 1}.check(t, c)
	}
}

func TestTellAtTheFence(t *testing.T) { // P23.3
	for _, x := range []struct{ k, change, rate, next int }{
		{0, 5000, 105000, 0},
		{0, 5001, 105000, 1},
		{0, 9000, 105000, 1},
		{0, -5000, 95000, 0},
		{0, -5001, 95000, 1},
		{1, 9000, 109000, 0},
		{1, 10000, 110000, 0},
		{1, 10001, 110000, 2},
		{1, -10001, 90000, 2},
		{2, 90000, 115000, 3},
		{8, 90000, 145000, 9},
		{9, 90000, 150000, 10},
		{10, 90000, 150000, 11},
		{9, -90000, 50000, 10},
		{9, 40000, 140000, 0},
		{1000000, 1 << 40, 150000, 1000001},
		{most - 1, 1 << 40, 150000, most},
		{most, 1 << 40, 150000, 1}, // above the greatest int there is none
		{most, -(1 << 40), 50000, 1},
		{most, 40000, 140000, 0},
		{5, 0, 100000, 0},
	} {
		// A grade of 1 changes a rate by 1000.
		grade := fix.Scale(x.change, one, 1000)
		b := api.Boost{}
		if x.change != 0 {
			b = api.Boost{Side: probe.Side(x.change), Run: 1}
		}
		before := trying(ud, 2*grade)
		before.K = x.k
		step{before, 0, tape(heads), at(x.rate, b, x.next), 1}.check(t, usual())
	}
	// A fence that never grows.
	before := trying(ud, 200*one)
	before.K = 7
	step{before, 0, tape(heads), at(101000, api.Boost{Side: 1, Run: 1}, 8), 1}.check(t, parts(10486, 10486, 0, one))
}

func TestTellAboutAnotherRate(t *testing.T) { // P23.3
	up := api.Boost{Side: 1, Run: 1}
	// The rate that is kept is moved, and not what was tried about.
	x := trying(ud, 4*one)
	x.Rate = 200000
	step{x, 2 * one, tape(heads), at(201000, up, 0), 1}.check(t, usual())
	// The fence, too, goes by it.
	x = trying(ud, 400*one)
	x.Rate = 200000
	step{x, 0, tape(heads), at(210000, up, 1), 1}.check(t, usual())
	// The grade goes by what was tried: its rates are 4 units apart.
	x = trying(ud, 4*one)
	x.X.Base = 200000
	step{x, 0, tape(heads), at(101000, up, 0), 1}.check(t, usual())
	// From beyond the bounds it goes on from the nearer one.
	x = trying(ud, 4*one)
	x.Rate = 3
	step{x, 2 * one, tape(heads), at(10500, up, 1), 1}.check(t, usual())
	x.Rate = most
	step{x, 2 * one, tape(heads), at(125000000, up, 0), 1}.check(t, usual())
	x = trying(ud, 2*one)
	x.Rate = most
	step{x, 4 * one, tape(heads), at(124999000, api.Boost{Side: -1, Run: 1}, 0), 1}.check(t, usual())
}

func TestTellAtTheBounds(t *testing.T) { // P23.3
	up, down := api.Boost{Side: 1, Run: 1}, api.Boost{Side: -1, Run: 1}
	bounded := by(98000, 103000, 98000)
	step{trying(ud, 4*one), 2 * one, tape(heads), at(101000, up, 0), 1}.check(t, bounded)
	step{trying(ud, 8*one), 0, tape(heads), at(103000, up, 0), 1}.check(t, bounded)
	step{trying(ud, 0), 8 * one, tape(heads), at(98000, down, 0), 1}.check(t, bounded)
	step{trying(ud, 0), 80 * one, tape(heads), at(98000, down, 1), 1}.check(t, bounded)
	// With nothing between both rates there is no side.
	x := trying(ud, 8*one)
	x.B, x.K = up, 5
	step{x, 0, tape(heads), at(100000, api.Boost{}, 0), 1}.check(t, by(100000, 100000, 100000))
	step{x, 0, tape(heads), at(100000, api.Boost{}, 0), 1}.check(t, parts(0, 52429, 52429, one))
	step{x, 0, tape(heads), at(100000, api.Boost{}, 0), 1}.check(t, parts(5, 52429, 52429, one))
	// At the highest rate only one side was tried: the rates are 1 unit apart.
	x = trying(ud, 2*one)
	step{x, one, tape(heads), at(100000, up, 0), 1}.check(t, by(10000, 100000, 50000))
	step{x, 4 * one, tape(heads), at(98000, down, 0), 1}.check(t, by(10000, 100000, 50000))
}

func TestTellByWhichSource(t *testing.T) { // P23.3
	for _, x := range []struct {
		s     api.Source
		order [2]bool
		draws int
	}{
		{tape(heads), ud, 1}, {tape(tails), du, 1}, {tape(1 << 32), du, 1}, {tape(1<<32+heads, 5), ud, 1}, {tape(), du, 0}, {api.Source{}, du, 0},
		{api.Source{Kind: 2, Tape: []uint64{0, 0, heads, 0}, At: 2}, ud, 1},
		{api.Source{Kind: 2, Tape: []uint64{heads, heads}, At: 2}, du, 0},
	} {
		want := at(101000, api.Boost{Side: 1, Run: 1}, 0)
		want.X.Order = x.order
		step{trying(ud, 2*one), 0, x.s, want, x.draws}.check(t, usual())
	}
	// A generator goes on as it does.
	s := draw.Pcg(42, 54)
	for range 50 {
		up, behind := draw.Flip(s)
		y, u, wrong := Tell(usual(), trying(ud, 1), 1, s)
		if y.X.Order != [2]bool{up, !up} || !same(u, behind) || wrong != api.OK {
			t.Errorf("%+v, %+v, %d", y, u, wrong)
		}
		s = u
	}
}

func TestTellWhatIsWrong(t *testing.T) { // P23.3
	check := func(x api.Climb, want api.Errno) {
		t.Helper()
		for _, s := range []api.Source{tape(1, 2), draw.Pcg(42, 54), {}} {
			if y, u, wrong := Tell(usual(), x, 5, s); y != (api.Climb{}) || !same(u, api.Source{}) || wrong != want {
				t.Errorf("%+v: %+v, %+v, %d", x, y, u, wrong)
			}
		}
	}
	trial := api.Probe{Base: 100000, Order: du}
	for _, x := range []api.Climb{
		{},
		{Asked: 1},
		{Phase: 1, Start: api.Start{Over: true}, Asked: 1},
		{Phase: 1, Start: api.Start{Over: true}}, // it is wrong ahead of not being asked
		{Phase: 1, Asked: 2},
		{Phase: 1, Asked: -1},
		{Phase: 1, K: -1, Asked: 1},
		{Phase: 1, K: -1},
		{Phase: 1, B: api.Boost{Run: 1}, Asked: 1},
		{Phase: 1, B: api.Boost{Side: 1, Run: 64}, Asked: 1},
		{Phase: 2, Asked: 1},
		{Phase: 2},
		{Phase: 2, X: trial, Asked: 3},
		{Phase: 2, X: trial, Asked: -1},
		{Phase: 2, X: trial, K: least, Asked: 1},
		{Phase: 2, X: trial, B: api.Boost{Side: 2, Run: 1}, Asked: 1},
		{Phase: 2, X: trial, B: api.Boost{Side: -1}},
		{Phase: 2, X: api.Probe{Base: 100000, Order: du, N: 2}, Asked: 2},
		{Phase: 2, X: api.Probe{Base: 100000, Order: du, N: 1}},
		{Phase: 2, X: api.Probe{Base: 100000, Order: [2]bool{}}, Asked: 1},
		{Phase: 3, X: trial, Asked: 1},
		{Phase: 4, X: trial, Asked: 1},
		{Phase: -1, X: trial, Asked: 1},
	} {
		check(x, api.ErrArg)
	}
	check(New(usual()), api.ErrNone)
	x, _ := From(usual(), 100000, tape(heads))
	check(x, api.ErrNone)
	for n := range 2 {
		trial.N = n
		check(api.Climb{Phase: 2, X: trial, Asked: n}, api.ErrNone)
	}
}

func TestTellWordForWord(t *testing.T) { // P23.3
	r := random(26)
	ends := map[[2]int]int{}
	check := func(c api.Config, x api.Climb, worth int) {
		t.Helper()
		s := r.source()
		y, u, wrong := Tell(c, x, worth, s)
		want, then, why := tellOf(c, x, worth, s)
		if y != want || !same(u, then) || wrong != why {
			t.Fatalf("%+v, %+v, %d: %+v, %+v, %d, not %+v, %+v, %d", c, x, worth, y, u, wrong, want, then, why)
		}
		if wrong == api.OK {
			ends[[2]int{10*x.Phase + x.X.N*(x.Phase-1), 10*y.Phase + y.X.N*(y.Phase-1)}]++
		}
	}
	for range 50000 {
		check(r.config(), r.loose(), r.near())
		check(r.config(), r.climb(), r.any())
		x := r.climb()
		x.Asked = 1 + x.X.N*(x.Phase-1)
		check(r.config(), x, r.near()<<r.below(30))
	}
	for _, c := range configs() {
		for _, rate := range edges() {
			for _, worth := range []int{6, 7, 8, 100 * one, -100 * one, most, least} {
				x := trying(du, 7)
				x.Rate, x.K, x.B = rate, r.fences(), r.boost()
				check(c, x, worth)
				x.X.Base = rate
				check(c, x, worth)
				x = api.Climb{Phase: 1, Start: api.Start{Rate: rate, Best: -rate, Last: 7, N: 1}, Asked: 1}
				check(c, x, worth)
			}
		}
	}
	// Of all ways on there were some.
	for _, way := range [][2]int{{10, 10}, {10, 20}, {20, 21}, {21, 20}} {
		if ends[way] < 1000 {
			t.Errorf("%v: %d", way, ends[way])
		}
	}
	if len(ends) != 4 {
		t.Errorf("%v", ends)
	}
}

func TestRounds(t *testing.T) { // P23.2, P23.3
	c, s := usual(), tape(tails, heads, tails)
	rates, x, s := told(t, c, New(c), s, 5, 6, 6)
	if !slices.Equal(rates, []int{50000, 100000, 200000}) || x.Phase != api.PhaseTry || x.Rate != 100000 || s.At != 1 {
		t.Fatalf("%v, %+v", rates, x)
	}
	rates, x, s = told(t, c, x, s, 0, 2*one)
	if !slices.Equal(rates, []int{99000, 101000}) || x.Rate != 101000 || x.B != (api.Boost{Side: 1, Run: 1}) || x.K != 0 || s.At != 2 {
		t.Fatalf("%v, %+v", rates, x)
	}
	rates, x, s = told(t, c, x, s, 50*one, 0)
	if !slices.Equal(rates, []int{102010, 99990}) || x.Rate != 106050 || x.B != (api.Boost{Side: 1, Run: 2}) || x.K != 1 || s.At != 3 {
		t.Fatalf("%v, %+v", rates, x)
	}
	// The tape is over: 0 is drawn from here on.
	rates, x, s = told(t, c, x, s, 50*one, 0, 3, 3)
	if !slices.Equal(rates, []int{104989, 107111, 94491, 96399}) || x.Rate != 95445 || x.B != (api.Boost{}) || x.K != 0 || s.At != 3 {
		t.Fatalf("%v, %+v", rates, x)
	}
}

func TestWorthsThatComeLate(t *testing.T) { // P23.2, P23.3
	r := random(27)
	for range 2000 {
		c := r.right()
		x := New(c)
		s := draw.Pcg(uint64(r.size()), 1)
		// The same climb, told at once: what it asks must not hang on when the worths come.
		y, u := x, s
		var due []int
		for range 60 {
			rate, wanted, z := Ask(c, x)
			if x = z; wanted {
				due = append(due, rate)
			} else if rate != x.Rate {
				t.Fatalf("%+v: %d", x, rate)
			}
			if len(due) == 0 || r.below(3) > 0 && wanted {
				continue
			}
			early, _, then := Ask(c, y)
			worth, wrong := early%1000*one, api.OK
			if x, s, wrong = Tell(c, x, worth, s); wrong != api.OK || early != due[0] {
				t.Fatalf("%+v: %d, not %d, %d", x, due[0], early, wrong)
			}
			if y, u, wrong = Tell(c, then, worth, u); wrong != api.OK || !same(s, u) {
				t.Fatalf("%+v: %d", y, wrong)
			}
			due = due[1:]
		}
	}
}

func TestLoop(t *testing.T) { // P23.4
	c := usual()
	for _, x := range []struct {
		room, times int
		s           api.Source
		asked       []int
	}{
		{200000, 1, api.Source{}, []int{50000}},
		{200000, 12, api.Source{}, []int{50000, 100000, 200000, 400000, 198000, 202000, 188100, 191900, 188628, 192438, 189419, 193245}},
		{1000000, 10, tape(heads, tails), []int{50000, 100000, 200000, 400000, 800000, 1600000, 808000, 792000, 792456, 808466}},
		// Where there is no room at all, nothing tells how a queue grows: it is worth more and more.
		{0, 7, tape(heads, tails), []int{50000, 100000, 200000, 400000, 800000, 1600000, 3200000}},
		{least, 7, tape(heads, tails), []int{50000, 100000, 200000, 400000, 800000, 1600000, 3200000}},
		{most, 15, tape(0), []int{50000, 100000, 200000, 400000, 800000, 1600000, 3200000, 6400000, 12800000, 25600000, 51200000, 102400000, 125000000, 123749971, 125000000}},
	} {
		if asked, _ := Loop(c, x.room, x.times, x.s); !slices.Equal(asked, x.asked) {
			t.Errorf("%d, %d: %v", x.room, x.times, asked)
		}
	}
}

func TestHowLongLoopsAre(t *testing.T) { // P23.4
	c, s := usual(), draw.Pcg(42, 54)
	all, last := Loop(c, 200000, 200, s)
	for _, times := range append(edges(), 9, 100, 198, 202, 1000) {
		asked, x := Loop(c, 200000, times, s)
		if n := max(min(times, 200), 0); len(asked) != n || !slices.Equal(asked, all[:n]) {
			t.Errorf("%d: %v", times, asked)
		}
		if times <= 0 && x != New(c) || times >= 200 && x != last {
			t.Errorf("%d: %+v", times, x)
		}
	}
}

func TestLoopWordForWord(t *testing.T) { // P23.4
	check := func(c api.Config, room, times int, s api.Source) {
		t.Helper()
		asked, x := Loop(c, room, times, s)
		if want, then := loopOf(c, room, times, s); !slices.Equal(asked, want) || x != then {
			t.Fatalf("%+v, %d, %d: %v, %+v, not %v, %+v", c, room, times, asked, x, want, then)
		}
	}
	r := random(28)
	for _, c := range configs() {
		for _, room := range []int{least, -1, 0, 1, 10000, 60000, 199000, 125000000, api.Top, most} {
			check(c, room, 40, r.source())
		}
	}
	for range 300 {
		check(r.right(), r.below(1200000000)>>r.below(20), r.below(80), r.source())
		check(r.strange(), r.any(), r.below(60), r.source())
	}
	check(r.right(), 5000000, r.any(), r.source())
}

func TestLoopsShareNothing(t *testing.T) { // P23.4
	l := []uint64{heads, tails, heads, tails}
	asked, _ := Loop(usual(), 200000, 9, draw.Tape(l))
	others, _ := Loop(usual(), 200000, 9, draw.Tape(l))
	for i := range others {
		others[i] = -7
	}
	if want, _ := loopOf(usual(), 200000, 9, tape(heads, tails, heads, tails)); !slices.Equal(asked, want) || !slices.Equal(l, []uint64{heads, tails, heads, tails}) {
		t.Errorf("%v, %v", asked, l)
	}
}

func TestNothingElseCounts(t *testing.T) { // P23.1 to P23.4
	other := api.Config{Mode: 9, Packet: 1, Burst: 2, Ring: 3, MiMin: 4, MiMax: 5, Timeout: 6, Steps: 7, Knee: 12, Slope: 13, Power: 14, Lag: 15, Loss: 16, Jitter: 17, Cut: 18}
	r := random(29)
	for range 20000 {
		c, x, worth, s := r.config(), r.loose(), r.near()<<r.below(30), r.source()
		other.MinRate, other.MaxRate, other.StartRate, other.Eps, other.Omega, other.Widen, other.Gain = c.MinRate, c.MaxRate, c.StartRate, c.Eps, c.Omega, c.Widen, c.Gain
		if New(c) != New(other) {
			t.Fatalf("%+v", c)
		}
		other.StartRate = r.any()
		rate, wanted, y := Ask(c, x)
		again, is, z := Ask(other, x)
		if rate != again || wanted != is || y != z {
			t.Fatalf("%+v, %+v", c, x)
		}
		y, u := From(c, worth, s)
		z, v := From(other, worth, s)
		if y != z || !same(u, v) {
			t.Fatalf("%+v, %d", c, worth)
		}
		y, u, wrong := Tell(c, x, worth, s)
		z, v, why := Tell(other, x, worth, s)
		if y != z || !same(u, v) || wrong != why {
			t.Fatalf("%+v, %+v, %d", c, x, worth)
		}
	}
}

func TestWhatIsRightStaysRight(t *testing.T) { // P23.5
	r := random(30)
	for range 100000 {
		c, x := r.config(), r.climb()
		_, _, y := Ask(c, x)
		z, _, wrong := Tell(c, y, r.any(), r.source())
		if !Is(y) || wrong == api.OK && !Is(z) || wrong != api.OK && wrong != api.ErrNone {
			t.Fatalf("%+v, %+v: %+v, %+v, %d", c, x, y, z, wrong)
		}
	}
	for range 500 {
		c, s := r.strange(), r.source()
		x := New(c)
		for range 100 {
			_, x, s = told(t, c, x, s, r.any())
		}
	}
}

// distance is how far two rates are apart.
func distance(a, b int) int { return max(a-b, b-a) }

func TestHowFarOneRoundGoes(t *testing.T) { // P23.5
	r := random(31)
	met, free, widest := 0, 0, 0
	for range 3000 {
		c, s := r.right(), draw.Pcg(uint64(r.size()), 1)
		if wrong := config.Check(c); wrong != api.OK {
			t.Fatalf("%+v: %d", c, wrong)
		}
		x := New(c)
		if r.below(2) == 0 {
			x, s = From(c, r.any(), s)
		}
		// A walk goes up more often, or down, or to and fro.
		drift := (r.below(3) - 1) << r.below(30)
		for range 100 {
			worths := []int{r.worth()}
			if x.Phase == api.PhaseTry {
				worths = append(worths, r.worth())
				worths[slices.Index(x.X.Order[:], true)] += drift
			}
			rates, y, u := told(t, c, x, s, worths...)
			if x.Phase == api.PhaseTry {
				limit := fence.Limit(c, x.K)
				if far := distance(x.Rate, y.Rate) * one; far > x.Rate*limit+one/2 || limit > one/2 {
					t.Fatalf("%+v, %+v: %+v", c, x, y)
				}
				switch {
				case y.K > 0:
					met++
				case y.Rate != x.Rate:
					free++
				}
				if limit == one/2 && y.K > 0 {
					widest++
				}
			}
			for _, rate := range append(rates, y.Rate) {
				if rate < c.MinRate || rate > c.MaxRate {
					t.Fatalf("%+v, %+v: %v, %+v", c, x, rates, y)
				}
			}
			x, s = y, u
		}
	}
	if met < 5000 || free < 5000 || widest < 500 {
		t.Errorf("%d, %d, %d", met, free, widest)
	}
}

func TestAllRatesAreWithinTheBounds(t *testing.T) { // P23.5
	r := random(32)
	for range 300 {
		c := r.right()
		asked, x := Loop(c, r.below(1200000000)>>r.below(20), 100, draw.Pcg(uint64(r.size()), 1))
		for _, rate := range append(asked, x.Rate) {
			if rate < c.MinRate || rate > c.MaxRate {
				t.Errorf("%+v: %v, %+v", c, asked, x)
			}
		}
	}
}

func TestRoomForBothThatAreTried(t *testing.T) { // P23.5
	r := random(33)
	up, stays := 0, 0
	for range 5000 {
		c := r.right()
		x, s := From(c, c.MinRate+r.below(c.MaxRate-c.MinRate+1)>>r.below(20), r.source())
		x.B, x.K = r.boost(), r.fences()
		rates := probe.Rates(c, x.X)
		room := slices.Max(rates[:]) + r.size()>>r.below(40)
		y := x
		for _, rate := range rates {
			_, y, s = told(t, c, y, s, vivace.Model(c, rate, room))
		}
		switch {
		case y.Rate < x.Rate:
			t.Errorf("%+v, %+v, %d: %+v", c, x, room, y)
		case y.Rate > x.Rate:
			up++
		default:
			stays++
		}
	}
	if up < 1000 || stays < 10 {
		t.Errorf("%d, %d", up, stays)
	}
}

func TestHowFarUsualLoopsGo(t *testing.T) { // T2, of usual configs
	r := random(34)
	for range 40 {
		c := config.Usual(1 + r.below(5))
		room := c.StartRate + r.below(200000000)>>r.below(15)
		for _, times := range []int{50, 199, 200} {
			if _, x := Loop(c, room, times, draw.Pcg(uint64(r.size()), 1)); x.Rate > 2*room || 2*x.Rate+2 < room && x.Rate != c.MaxRate || x.Phase != api.PhaseTry {
				t.Errorf("%d, %d: %+v", room, times, x)
			}
		}
	}
}
