package steer

import (
	"math"
	"math/big"
	"slices"
	"testing"

	"pacemaker/allegro"
	"pacemaker/api"
	"pacemaker/config"
	"pacemaker/contest"
	"pacemaker/draw"
	"pacemaker/order"
	"pacemaker/startup"
)

const (
	most  = math.MaxInt
	least = math.MinInt
)

// Two that go up, in some orders, which a tape draws by these numbers.
var (
	uudd = [4]bool{true, true, false, false} // 0
	uddu = [4]bool{true, false, false, true} // 2
	dudu = [4]bool{false, true, false, true} // 4
	dduu = [4]bool{false, false, true, true} // 5
)

func tape(l ...uint64) api.Source { return draw.Tape(l) }

// same tells whether two sources are at the same place, and will draw the same.
func same(a, b api.Source) bool {
	return a.Kind == b.Kind && a.State == b.State && a.Inc == b.Inc && a.At == b.At && slices.Equal(a.Tape, b.Tape)
}

func usual() api.Config { return config.Usual(api.Allegro) }

// by is a usual config, but with these rates.
func by(low, high, start int) api.Config {
	c := usual()
	c.MinRate, c.MaxRate, c.StartRate = low, high, start
	return c
}

// steps is a usual config, but with these steps.
func steps(eps, n int) api.Config {
	c := usual()
	c.Eps, c.Steps = eps, n
	return c
}

// configs are right ones, and others, whose rates are far apart, near, the same, in the wrong order, and at all ends, and whose steps are, too.
func configs() []api.Config {
	var l []api.Config
	for _, x := range [][3]int{
		{10000, 125000000, 50000}, {1000, 1000000000, 1000}, {50000, 50000, 50000}, {10001, 10002, 10001}, {20000, 10000, 15000}, {0, 0, 0}, {0, 100, 50}, {-5, 5, 1}, {-1000, -10, -20},
		{least, most, 1}, {most, least, 0}, {least, least, 5}, {most, most, 5}, {1, most, 1}, {0, most, api.Top - 1}, {-api.Top - 1, 0, -api.Top},
	} {
		l = append(l, by(x[0], x[1], x[2]))
	}
	for _, x := range [][2]int{{1, 1}, {262144, 2}, {32768, 16}, {524288, 1}, {10486, 0}, {10486, -1}, {10486, least}, {10486, 17}, {10486, most}, {0, 5}, {-10486, 5}, {least, 3}, {most, 3}, {1 << 20, 4}} {
		l = append(l, steps(x[0], x[1]))
	}
	return l
}

// edges are 0, the ends of all kinds, what is beside them, and some others.
func edges() []int {
	l := []int{least, least + 1, most - 1, most}
	for _, n := range []int{0, 4, 16, 200, 10000, 50000, 125000000, 1 << 40, api.Top} {
		for beside := -1; beside <= 1; beside++ {
			l = append(l, n+beside, -n+beside)
		}
	}
	slices.Sort(l)
	return slices.Compact(l)
}

// random makes the same numbers at each run.
type random uint64

func (r *random) below(n int) int {
	*r = *r*6364136223846793005 + 1442695040888963407
	return int(uint64(*r)>>33) % n
}

// size is any int that is not below 0, small or great.
func (r *random) size() int {
	return (r.below(1<<31)<<32 | r.below(1<<31)<<1 | r.below(2)) >> r.below(63)
}

// any is any int, small or great, of both signs.
func (r *random) any() int {
	n := r.size()
	if r.below(2) == 0 {
		return ^n
	}
	return n
}

// near is one of few numbers, so that some are the same.
func (r *random) near() int { return r.below(7) - 3 }

// source is one of any kind.
func (r *random) source() api.Source {
	switch r.below(4) {
	case 0:
		return tape(uint64(r.size()), uint64(r.size()))
	case 1:
		return api.Source{Kind: r.near() + 4, At: r.near()}
	}
	return draw.Pcg(uint64(r.size()), uint64(r.size()))
}

// right is a right config with any rates, steps, and curve.
func (r *random) right() api.Config {
	c := config.Usual(1 + r.below(5))
	c.MinRate = 1000 + r.below(1000000000-999)>>r.below(30)
	c.MaxRate = c.MinRate + r.below(1000000001-c.MinRate)>>r.below(30)
	c.StartRate = c.MinRate + r.below(c.MaxRate-c.MinRate+1)>>r.below(30)
	c.Steps = 1 + r.below(16)
	c.Eps = min(262144, 524288/c.Steps)
	if r.below(4) > 0 {
		c.Eps = 1 + r.below(c.Eps)>>r.below(18)
	}
	c.Slope, c.Knee = 1+r.size()>>23, 1+r.below(524288)>>r.below(19)
	return c
}

// strange is any config, right or not.
func (r *random) strange() api.Config {
	c := by(r.any(), r.any(), r.any())
	c.Eps, c.Steps, c.Slope, c.Knee = r.any(), r.any(), r.any(), r.any()
	if r.below(2) == 0 {
		c.Eps, c.Steps = r.below(300000), r.below(20)-1
	}
	return c
}

// config is one of both.
func (r *random) config() api.Config {
	if r.below(2) == 0 {
		return r.right()
	}
	return r.strange()
}

// contest is a right contest, told so many times.
func (r *random) contest(n int) api.Contest {
	order, _ := order.Four(r.below(6))
	x := api.Contest{Base: r.below(1000000000), Step: 1 + r.below(16), Order: order, N: n}
	for i := range n {
		x.Got[i] = r.near()
	}
	return x
}

// steer is a right one, and what its phase does not go by is anything.
func (r *random) steer() api.Steer {
	x := api.Steer{Phase: 1 + r.below(3), Rate: r.below(1000000000), Prev: r.below(1000000000), Step: r.any(), Side: r.any(), Last: r.near(), Asked: r.below(2)}
	x.Start = api.Start{Rate: r.below(1000000000), Best: r.below(1000000000), Last: r.near(), N: r.below(3), Over: r.below(2) == 0}
	x.X = r.contest(r.below(5))
	switch x.Phase {
	case api.PhaseStart:
		x.Start.Over = false
	case api.PhaseTry:
		x.X = r.contest(r.below(4))
		x.Asked = x.X.N + r.below(5-x.X.N)
	case api.PhaseMove:
		x.Side, x.Step = 2*r.below(2)-1, 1+r.below(16)
	}
	return x
}

// loose is a steer that may be wrong in any way.
func (r *random) loose() api.Steer {
	x := r.steer()
	switch r.below(9) {
	case 0:
		x.Phase = r.near()
	case 1:
		x.Asked = r.near() + 2
	case 2:
		x.Asked = r.any()
	case 3:
		x.Side = r.near()
	case 4:
		x.Step = r.below(20) - 1
	case 5:
		x.X.N = r.near() + 3
	case 6:
		x.X.Order[r.below(4)] = true
	case 7:
		x.Start.Over = true
	}
	return x
}

// isOf is what the chapter calls right, word for word.
func isOf(x api.Steer) bool {
	if x.Phase == 1 {
		return !x.Start.Over && (x.Asked == 0 || x.Asked == 1)
	}
	if x.Phase == 2 {
		return contest.Is(x.X) && x.X.N < 4 && x.Asked >= x.X.N && x.Asked <= 4
	}
	if x.Phase == 3 {
		return (x.Asked == 0 || x.Asked == 1) && (x.Side == 1 || x.Side == -1) && x.Step >= 1 && x.Step <= 16
	}
	return false
}

// askOf is P22.2 word for word.
func askOf(c api.Config, x api.Steer) (int, bool, api.Steer) {
	rate, wanted := x.Rate, false
	if isOf(x) {
		switch x.Phase {
		case 1:
			rate, wanted = x.Start.Rate, x.Asked == 0
		case 2:
			if x.Asked < 4 {
				rate, wanted = contest.Rates(c, x.X)[x.Asked], true
			}
		case 3:
			wanted = x.Asked == 0
		}
	}
	if wanted {
		x.Asked++
	}
	return rate, wanted, x
}

// mostSteps is what Steps of c count as.
func mostSteps(c api.Config) int {
	if c.Steps < 1 {
		return 1
	}
	if c.Steps > 16 {
		return 16
	}
	return c.Steps
}

// tryOf is what the chapter calls to try a rate, word for word.
func tryOf(c api.Config, x api.Steer, rate, step int, s api.Source) (api.Steer, api.Source) {
	order, behind := order.Trials(s)
	trial, wrong := contest.New(c, rate, step, order)
	if wrong != api.OK {
		panic(wrong)
	}
	return api.Steer{Phase: 2, Start: x.Start, X: trial, Rate: rate, Prev: x.Prev, Step: step, Side: x.Side, Last: x.Last, Asked: 0}, behind
}

// tellOf is P22.3 word for word.
func tellOf(c api.Config, x api.Steer, worth int, s api.Source) (api.Steer, api.Source, api.Errno) {
	if !isOf(x) {
		return api.Steer{}, api.Source{}, api.ErrArg
	}
	if x.Phase != 2 && x.Asked == 0 || x.Phase == 2 && x.Asked == x.X.N {
		return api.Steer{}, api.Source{}, api.ErrNone
	}
	switch x.Phase {
	case 1:
		x.Start = startup.Next(c, x.Start, worth)
		x.Rate, x.Asked = x.Start.Rate, 0
		if x.Start.Over {
			x, s = tryOf(c, x, x.Rate, 1, s)
		}
	case 2:
		x.X, _ = contest.Tell(x.X, worth)
		if x.X.N < 4 {
			break
		}
		side := contest.Side(x.X)
		if side == 0 {
			x, s = tryOf(c, x, x.Rate, min(x.X.Step+1, mostSteps(c)), s)
			break
		}
		var others []int
		for i, got := range x.X.Got {
			if side == 1 && !x.X.Order[i] || side == -1 && x.X.Order[i] {
				others = append(others, got)
			}
		}
		x = api.Steer{Phase: 3, Start: x.Start, X: x.X, Rate: contest.Move(c, x.Rate, 1, side), Prev: x.Rate, Step: 1, Side: side, Last: max(others[0], others[1]), Asked: 0}
	case 3:
		if worth <= x.Last {
			x, s = tryOf(c, x, x.Prev, 1, s)
			break
		}
		step := min(x.Step+1, mostSteps(c))
		x = api.Steer{Phase: 3, Start: x.Start, X: x.X, Rate: contest.Move(c, x.Rate, step, x.Side), Prev: x.Rate, Step: step, Side: x.Side, Last: worth, Asked: 0}
		if x.Rate == x.Prev {
			x, s = tryOf(c, x, x.Rate, 1, s)
		}
	}
	return x, s, api.OK
}

// loopOf is P22.4 word for word.
func loopOf(c api.Config, room, times int, s api.Source) ([]int, api.Steer) {
	x := api.Steer{Phase: 1, Start: startup.New(c), Rate: startup.New(c).Rate}
	var rates []int
	for n := 0; n < times && n < 200; n++ {
		rate, wanted, y := askOf(c, x)
		if wanted {
			y, s, _ = tellOf(c, y, allegro.Model(c, rate, room), s)
		}
		rates, x = append(rates, rate), y
	}
	return rates, x
}

// told is a steer that asks, and is told what that was worth, again and again; and the rates that it asks.
func told(t *testing.T, c api.Config, x api.Steer, s api.Source, worths ...int) ([]int, api.Steer, api.Source) {
	t.Helper()
	var rates []int
	for _, worth := range worths {
		rate, wanted, y := Ask(c, x)
		if !wanted {
			t.Fatalf("%+v: %d is not wanted", x, rate)
		}
		y, u, wrong := Tell(c, y, worth, s)
		if wrong != api.OK || !Is(y) {
			t.Fatalf("%+v, %d: %+v, %d", x, worth, y, wrong)
		}
		rates, x, s = append(rates, rate), y, u
	}
	return rates, x, s
}

func TestTheChaptersExamples(t *testing.T) { // P22.4
	asked, _ := Loop(usual(), 200000, 9, api.Source{})
	if !slices.Equal(asked, []int{50000, 100000, 200000, 400000, 202000, 202000, 198000, 198000, 198000}) {
		t.Errorf("%v", asked)
	}
}

func TestIsWhileStarting(t *testing.T) { // P22.1
	wrong := api.Contest{Step: 99, N: 99}
	for _, x := range []struct {
		x    api.Steer
		want bool
	}{
		{api.Steer{}, false},
		{api.Steer{Phase: 1}, true},
		{api.Steer{Phase: 1, Asked: 1}, true},
		{api.Steer{Phase: 1, Asked: 2}, false},
		{api.Steer{Phase: 1, Asked: -1}, false},
		{api.Steer{Phase: 1, Asked: most}, false},
		{api.Steer{Phase: 1, Asked: least}, false},
		{api.Steer{Phase: 1, Start: api.Start{Over: true}}, false},
		{api.Steer{Phase: 1, Start: api.Start{Over: true}, Asked: 1}, false},
		// What its phase does not go by may be anything.
		{api.Steer{Phase: 1, Start: api.Start{Rate: least, Best: most, Last: least, N: -9}, X: wrong, Rate: -5, Prev: most, Step: -1, Side: 7, Last: least}, true},
		{api.Steer{Phase: 0, X: api.Contest{Step: 1, Order: uudd}, Step: 1, Side: 1}, false},
		{api.Steer{Phase: 4, X: api.Contest{Step: 1, Order: uudd}, Step: 1, Side: 1}, false},
		{api.Steer{Phase: -1, X: api.Contest{Step: 1, Order: uudd}, Step: 1, Side: 1}, false},
		{api.Steer{Phase: least, X: api.Contest{Step: 1, Order: uudd}, Step: 1, Side: 1}, false},
		{api.Steer{Phase: most, X: api.Contest{Step: 1, Order: uudd}, Step: 1, Side: 1}, false},
	} {
		if Is(x.x) != x.want {
			t.Errorf("%+v: not %t", x.x, x.want)
		}
	}
}

func TestIsWhileTrying(t *testing.T) { // P22.1
	for n := range 4 {
		x := api.Steer{Phase: 2, X: api.Contest{Base: 5, Step: 3, Order: uddu, N: n}}
		for _, x.Asked = range append(edges(), 2, 3, 5) {
			if want := x.Asked >= n && x.Asked <= 4; Is(x) != want {
				t.Errorf("%+v: not %t", x, want)
			}
		}
	}
	for _, x := range []struct {
		x    api.Steer
		want bool
	}{
		{api.Steer{Phase: 2}, false}, // a contest of 0 is not right
		{api.Steer{Phase: 2, X: api.Contest{Step: 1, Order: uudd}}, true},
		{api.Steer{Phase: 2, X: api.Contest{Step: 16, Order: uudd}}, true},
		{api.Steer{Phase: 2, X: api.Contest{Step: 0, Order: uudd}}, false},
		{api.Steer{Phase: 2, X: api.Contest{Step: 17, Order: uudd}}, false},
		{api.Steer{Phase: 2, X: api.Contest{Step: 1, Order: [4]bool{true, true, true, false}}}, false},
		{api.Steer{Phase: 2, X: api.Contest{Step: 1, Order: uudd, Got: [4]int{1}}}, false},
		{api.Steer{Phase: 2, X: api.Contest{Step: 1, Order: uudd, N: 1, Got: [4]int{1}}, Asked: 1}, true},
		{api.Steer{Phase: 2, X: api.Contest{Step: 1, Order: uudd, N: 4}, Asked: 4}, false}, // a whole one is none to try
		{api.Steer{Phase: 2, X: api.Contest{Step: 1, Order: uudd, N: 5}, Asked: 4}, false},
		{api.Steer{Phase: 2, X: api.Contest{Step: 1, Order: uudd, N: -1}, Asked: 1}, false},
		{api.Steer{Phase: 2, X: api.Contest{Step: 1, Order: uudd, N: -1}, Asked: -1}, false},
		{api.Steer{Phase: 2, X: api.Contest{Step: 1, Order: uudd, N: least}}, false},
		// What its phase does not go by may be anything.
		{api.Steer{Phase: 2, X: api.Contest{Base: least, Step: 1, Order: uudd}, Start: api.Start{Over: true}, Rate: most, Prev: least, Step: -7, Side: 9, Last: -1}, true},
	} {
		if Is(x.x) != x.want {
			t.Errorf("%+v: not %t", x.x, x.want)
		}
	}
}

func TestIsWhileMoving(t *testing.T) { // P22.1
	for _, side := range edges() {
		for step := -1; step <= 18; step++ {
			for _, asked := range []int{least, -1, 0, 1, 2, 4, most} {
				x := api.Steer{Phase: 3, Side: side, Step: step, Asked: asked}
				if want := (side == 1 || side == -1) && step >= 1 && step <= 16 && (asked == 0 || asked == 1); Is(x) != want {
					t.Errorf("%+v: not %t", x, want)
				}
			}
		}
	}
	for _, x := range []struct {
		x    api.Steer
		want bool
	}{
		{api.Steer{Phase: 3}, false},
		{api.Steer{Phase: 3, Side: 1}, false},
		{api.Steer{Phase: 3, Step: 1}, false},
		{api.Steer{Phase: 3, Side: 1, Step: least}, false},
		{api.Steer{Phase: 3, Side: 1, Step: most}, false},
		{api.Steer{Phase: 3, Side: least, Step: 1}, false},
		// What its phase does not go by may be anything.
		{api.Steer{Phase: 3, Side: -1, Step: 16, X: api.Contest{N: 4}, Start: api.Start{Over: true}, Rate: least, Prev: most, Last: least}, true},
	} {
		if Is(x.x) != x.want {
			t.Errorf("%+v: not %t", x.x, x.want)
		}
	}
}

func TestIsWordForWord(t *testing.T) { // P22.1
	r := random(22)
	rights := 0
	for range 100000 {
		x := r.loose()
		if Is(x) != isOf(x) {
			t.Fatalf("%+v: not %t", x, isOf(x))
		}
		if y := r.steer(); !Is(y) {
			t.Fatalf("%+v", y)
		}
		if Is(x) {
			rights++
		}
	}
	if rights < 20000 || rights > 80000 {
		t.Errorf("%d", rights)
	}
}

func TestNew(t *testing.T) { // P22.1
	if x := New(usual()); x != (api.Steer{Phase: 1, Start: api.Start{Rate: 50000}, Rate: 50000}) {
		t.Errorf("%+v", x)
	}
	for _, x := range []struct{ low, high, start, want int }{
		{10000, 125000000, 9999, 10000},
		{10000, 125000000, least, 10000},
		{10000, 125000000, 125000001, 125000000},
		{10000, 125000000, most, 125000000},
		{20000, 10000, 15000, 20000}, // bounds in the wrong order: the lower one first
		{-30, -10, 5, -10},
	} {
		if y := New(by(x.low, x.high, x.start)); y != (api.Steer{Phase: 1, Start: api.Start{Rate: x.want}, Rate: x.want}) {
			t.Errorf("%+v: %+v", x, y)
		}
	}
	for _, c := range configs() {
		if x := New(c); x != (api.Steer{Phase: 1, Start: startup.New(c), Rate: startup.New(c).Rate}) || !Is(x) {
			t.Errorf("%+v: %+v", c, x)
		}
	}
}

func TestAskWhileStarting(t *testing.T) { // P22.2
	x := api.Steer{Phase: 1, Start: api.Start{Rate: 70000, Best: 5}, Rate: 3, Prev: 4}
	rate, wanted, y := Ask(usual(), x)
	x.Asked = 1
	if rate != 70000 || !wanted || y != x {
		t.Errorf("%d, %t, %+v", rate, wanted, y)
	}
	if rate, wanted, y = Ask(usual(), x); rate != 70000 || wanted || y != x {
		t.Errorf("%d, %t, %+v", rate, wanted, y)
	}
	// The rate is told as it is, whatever the bounds are.
	x = api.Steer{Phase: 1, Start: api.Start{Rate: -8}}
	if rate, wanted, _ = Ask(usual(), x); rate != -8 || !wanted {
		t.Errorf("%d, %t", rate, wanted)
	}
}

func TestAskWhileTrying(t *testing.T) { // P22.2
	x := api.Steer{Phase: 2, Start: api.Start{Rate: 8}, X: api.Contest{Base: 100000, Step: 2, Order: uddu}, Rate: 70000, Prev: 4, Step: 1, Side: 9}
	for told, worth := range []int{7, -7, 0, 0} {
		y := x
		for _, want := range []int{102000, 98000, 98000, 102000}[told:] {
			rate, wanted, z := Ask(usual(), y)
			y.Asked++
			if rate != want || !wanted || z != y {
				t.Errorf("%+v: %d, %t, %+v", y, rate, wanted, z)
			}
		}
		// All of them were asked: meanwhile the rate is kept.
		for range 3 {
			if rate, wanted, z := Ask(usual(), y); rate != 70000 || wanted || z != y {
				t.Errorf("%+v: %d, %t, %+v", y, rate, wanted, z)
			}
		}
		x.X.Got[told] = worth
		x.X.N++
		x.Asked++
	}
}

func TestAskWhileMoving(t *testing.T) { // P22.2
	x := api.Steer{Phase: 3, Start: api.Start{Rate: 8}, X: api.Contest{Base: 100000, Step: 2, Order: uddu}, Rate: 70000, Prev: 4, Step: 1, Side: -1}
	rate, wanted, y := Ask(usual(), x)
	x.Asked = 1
	if rate != 70000 || !wanted || y != x {
		t.Errorf("%d, %t, %+v", rate, wanted, y)
	}
	if rate, wanted, y = Ask(usual(), x); rate != 70000 || wanted || y != x {
		t.Errorf("%d, %t, %+v", rate, wanted, y)
	}
}

func TestAskWhatIsWrong(t *testing.T) { // P22.2
	for _, x := range []api.Steer{
		{},
		{Phase: 1, Start: api.Start{Rate: 5, Over: true}},
		{Phase: 1, Start: api.Start{Rate: 5}, Asked: -1},
		{Phase: 1, Start: api.Start{Rate: 5}, Asked: 2},
		{Phase: 2},
		{Phase: 2, X: api.Contest{Base: 100000, Step: 2, Order: uddu}, Asked: -1},
		{Phase: 2, X: api.Contest{Base: 100000, Step: 2, Order: uddu}, Asked: least},
		{Phase: 2, X: api.Contest{Base: 100000, Step: 2, Order: uddu, N: 1}},
		{Phase: 2, X: api.Contest{Base: 100000, Step: 2, Order: uddu, N: 4}, Asked: 4},
		{Phase: 2, X: api.Contest{Base: 100000, Step: 2, Order: uddu}, Asked: 5},
		{Phase: 2, X: api.Contest{Base: 100000, Step: 17, Order: uddu}},
		{Phase: 3, Side: 1},
		{Phase: 3, Step: 1},
		{Phase: 3, Side: 1, Step: 1, Asked: -1},
		{Phase: 4, Side: 1, Step: 1, X: api.Contest{Step: 1, Order: uudd}},
		{Phase: least},
	} {
		for _, x.Rate = range []int{7, 0, least, most} {
			if rate, wanted, y := Ask(usual(), x); rate != x.Rate || wanted || y != x {
				t.Errorf("%+v: %d, %t, %+v", x, rate, wanted, y)
			}
		}
	}
}

func TestAskWordForWord(t *testing.T) { // P22.2
	r := random(23)
	for range 50000 {
		c, x := r.config(), r.loose()
		rate, wanted, y := Ask(c, x)
		if want, is, then := askOf(c, x); rate != want || wanted != is || y != then {
			t.Fatalf("%+v, %+v: %d, %t, %+v, not %d, %t, %+v", c, x, rate, wanted, y, want, is, then)
		}
	}
}

// step is what a usual steer is told, by what source, and what comes of it.
type step struct {
	x     api.Steer
	worth int
	s     api.Source
	want  api.Steer
	// draws is how many the source made.
	draws int
}

func (x step) check(t *testing.T, c api.Config) {
	t.Helper()
	y, s, wrong := Tell(c, x.x, x.worth, x.s)
	if y != x.want || wrong != api.OK || s.At != x.s.At+x.draws || s.Kind != x.s.Kind || !slices.Equal(s.Tape, x.s.Tape) {
		t.Errorf("%+v, %d: %+v, not %+v; %+v, %d", x.x, x.worth, y, x.want, s, wrong)
	}
	if !Is(y) {
		t.Errorf("%+v, %d: %+v", x.x, x.worth, y)
	}
}

func TestTellWhileStarting(t *testing.T) { // P22.3
	s := tape(2, 5)
	going := api.Start{Rate: 100000, Best: 50000, Last: 7, N: 1}
	over := api.Start{Rate: 50000, Best: 50000, Last: 7, N: 1, Over: true}
	highest := api.Start{Rate: 125000000, Best: 102400000, Last: 7, N: 3}
	for _, x := range []step{
		{api.Steer{Phase: 1, Start: api.Start{Rate: 50000}, Rate: 50000, Asked: 1}, -9, s,
			api.Steer{Phase: 1, Start: api.Start{Rate: 100000, Best: 50000, Last: -9, N: 1}, Rate: 100000}, 0},
		{api.Steer{Phase: 1, Start: going, Rate: 100000, Asked: 1}, 8, s,
			api.Steer{Phase: 1, Start: api.Start{Rate: 200000, Best: 100000, Last: 8, N: 2}, Rate: 200000}, 0},
		// It is the starting phase's rate that counts, and all else stays.
		{api.Steer{Phase: 1, Start: going, X: api.Contest{N: 9}, Rate: 3, Prev: 4, Step: 5, Side: 6, Last: 70, Asked: 1}, 8, s,
			api.Steer{Phase: 1, Start: api.Start{Rate: 200000, Best: 100000, Last: 8, N: 2}, X: api.Contest{N: 9}, Rate: 200000, Prev: 4, Step: 5, Side: 6, Last: 70}, 0},
		{api.Steer{Phase: 1, Start: going, Rate: 100000, Asked: 1}, 7, s,
			api.Steer{Phase: 2, Start: over, X: api.Contest{Base: 50000, Step: 1, Order: uddu}, Rate: 50000, Step: 1}, 1},
		{api.Steer{Phase: 1, Start: going, Rate: 100000, Asked: 1}, least, s,
			api.Steer{Phase: 2, Start: over, X: api.Contest{Base: 50000, Step: 1, Order: uddu}, Rate: 50000, Step: 1}, 1},
		{api.Steer{Phase: 1, Start: going, X: api.Contest{N: 9}, Rate: 3, Prev: 4, Step: 5, Side: 6, Last: 70, Asked: 1}, 0, s,
			api.Steer{Phase: 2, Start: over, X: api.Contest{Base: 50000, Step: 1, Order: uddu}, Rate: 50000, Prev: 4, Step: 1, Side: 6, Last: 70}, 1},
		// At the greatest rate it is over when that is better, too.
		{api.Steer{Phase: 1, Start: highest, Rate: 125000000, Asked: 1}, 8, s,
			api.Steer{Phase: 2, Start: api.Start{Rate: 125000000, Best: 125000000, Last: 8, N: 4, Over: true}, X: api.Contest{Base: 125000000, Step: 1, Order: uddu}, Rate: 125000000, Step: 1}, 1},
		{api.Steer{Phase: 1, Start: highest, Rate: 125000000, Asked: 1}, 7, s,
			api.Steer{Phase: 2, Start: api.Start{Rate: 102400000, Best: 102400000, Last: 7, N: 3, Over: true}, X: api.Contest{Base: 102400000, Step: 1, Order: uddu}, Rate: 102400000, Step: 1}, 1},
		// The rate is as it is; what is tried about it is within the bounds.
		{api.Steer{Phase: 1, Start: api.Start{Rate: 8, Best: 5, Last: 7, N: 1}, Asked: 1}, 6, s,
			api.Steer{Phase: 2, Start: api.Start{Rate: 5, Best: 5, Last: 7, N: 1, Over: true}, X: api.Contest{Base: 10000, Step: 1, Order: uddu}, Rate: 5, Step: 1}, 1},
	} {
		x.check(t, usual())
	}
}

// trying is a steer whose contest about 100000 was told some worths, and had all of its rates asked.
func trying(order [4]bool, step int, got ...int) api.Steer {
	x := api.Contest{Base: 100000, Step: step, Order: order, N: len(got)}
	copy(x.Got[:], got)
	return api.Steer{Phase: 2, Start: api.Start{Rate: 8, Over: true}, X: x, Rate: 100000, Prev: 44, Step: step, Side: 55, Last: 66, Asked: 4}
}

func TestTellWhileTrying(t *testing.T) { // P22.3
	s := tape(5, 4, 2)
	// What was asked stays asked, as long as the contest goes on.
	for asked := 1; asked <= 4; asked++ {
		x := trying(uddu, 1)
		x.Asked = asked
		want := trying(uddu, 1, least)
		want.Asked = asked
		step{x, least, s, want, 0}.check(t, usual())
	}
	step{trying(uddu, 1, 9), 8, s, trying(uddu, 1, 9, 8), 0}.check(t, usual())
	step{trying(uddu, 1, 9, 8), 7, s, trying(uddu, 1, 9, 8, 7), 0}.check(t, usual())
}

func TestTellWhichSideIsBetter(t *testing.T) { // P22.3
	s := tape(5, 4, 2)
	for _, x := range []struct {
		order            [4]bool
		step             int
		got              [4]int
		side, rate, last int
	}{
		{uddu, 1, [4]int{9, 8, 7, 8}, 1, 101000, 8},
		{uddu, 1, [4]int{9, 7, 8, 9}, 1, 101000, 8}, // the greater one of those that do not go there
		{uddu, 1, [4]int{7, 9, 9, 8}, -1, 99000, 8},
		{uddu, 1, [4]int{8, 9, 9, 7}, -1, 99000, 8},
		{uudd, 1, [4]int{9, 5, 6, 4}, 1, 101000, 6},
		{uudd, 1, [4]int{6, 4, 9, 5}, -1, 99000, 6},
		{dudu, 1, [4]int{1, 2, 3, 4}, 1, 101000, 3},
		{dudu, 1, [4]int{4, 3, 2, 1}, -1, 99000, 3},
		{dduu, 1, [4]int{-4, -5, -3, -2}, 1, 101000, -4},
		{dduu, 1, [4]int{-3, -2, -4, -5}, -1, 99000, -4},
		{dduu, 1, [4]int{0, 0, 1, 1}, 1, 101000, 0},
		{dduu, 1, [4]int{least, least, most, most}, 1, 101000, least},
		{dduu, 1, [4]int{most, most, least, least}, -1, 99000, least},
		{dduu, 1, [4]int{most - 1, least, most, 0}, 1, 101000, most - 1},
		// It moves by 1 step, by however many it was tried.
		{uddu, 2, [4]int{9, 8, 7, 8}, 1, 101000, 8},
		{uddu, 5, [4]int{7, 9, 9, 8}, -1, 99000, 8},
		{uddu, 16, [4]int{7, 9, 9, 8}, -1, 99000, 8},
	} {
		before := trying(x.order, x.step, x.got[:3]...)
		want := trying(x.order, x.step, x.got[:]...)
		want.Phase, want.Rate, want.Prev, want.Step, want.Side, want.Last, want.Asked = 3, x.rate, 100000, 1, x.side, x.last, 0
		step{before, x.got[3], s, want, 0}.check(t, usual())
	}
	// The rate that is kept is moved, and not what was tried about.
	before, want := trying(uddu, 1, 9, 8, 7), trying(uddu, 1, 9, 8, 7, 8)
	before.Rate = 200000
	want.Phase, want.Rate, want.Prev, want.Step, want.Side, want.Last, want.Asked = 3, 202000, 200000, 1, 1, 8, 0
	step{before, 8, s, want, 0}.check(t, usual())
	// It moves on at a bound, too: it is not tried again as yet.
	before.Rate, want.Rate, want.Prev = 125000000, 125000000, 125000000
	step{before, 8, s, want, 0}.check(t, usual())
	before.Rate, want.Rate, want.Prev = most, 125000000, most
	step{before, 8, s, want, 0}.check(t, usual())
}

func TestTellThatNoSideIsBetter(t *testing.T) { // P22.3
	for _, x := range []struct{ n, step, next int }{
		{5, 1, 2}, {5, 2, 3}, {5, 4, 5}, {5, 5, 5}, {5, 6, 5}, {5, 16, 5},
		{1, 1, 1}, {1, 2, 1}, {1, 16, 1}, {2, 1, 2}, {2, 2, 2}, {16, 15, 16}, {16, 16, 16}, {16, 1, 2},
		// Of steps that are too few, or too many, the nearer end counts.
		{0, 1, 1}, {0, 7, 1}, {-1, 1, 1}, {least, 16, 1}, {17, 15, 16}, {17, 16, 16}, {most, 16, 16}, {most, 1, 2},
	} {
		for _, got := range [][4]int{{1, 1, 1, 1}, {9, 8, 8, 7}, {7, 8, 8, 9}, {9, 9, 7, 8}, {0, 0, 0, 0}, {most, least, most, least}} {
			before := trying(uddu, x.step, got[:3]...)
			want := trying(dduu, x.next)
			want.Asked = 0
			step{before, got[3], tape(5), want, 1}.check(t, steps(10486, x.n))
			// The rate that is kept is tried, and not what was tried about.
			before.Rate, before.Step = 5, 77
			want.Rate, want.X.Base = 5, 10000
			step{before, got[3], tape(5), want, 1}.check(t, steps(10486, x.n))
		}
	}
}

// moving is a steer that goes on from 100000 to 101000, or 99000, where it was worth 10.
func moving(side, step, rate int) api.Steer {
	return api.Steer{Phase: 3, Start: api.Start{Rate: 8, Over: true}, X: api.Contest{N: 7}, Rate: rate, Prev: 100000, Step: step, Side: side, Last: 10, Asked: 1}
}

func TestTellWhileItIsBetter(t *testing.T) { // P22.3
	s := tape(5, 4, 2)
	for _, x := range []struct{ n, side, step, rate, next, to int }{
		{5, 1, 1, 101000, 2, 103020},
		{5, 1, 2, 103020, 3, 106111},
		{5, 1, 4, 100000, 5, 105000},
		{5, 1, 5, 100000, 5, 105000}, // by no more steps than the config's
		{5, 1, 6, 100000, 5, 105000},
		{5, 1, 16, 100000, 5, 105000},
		{5, -1, 1, 99000, 2, 97020},
		{5, -1, 5, 100000, 5, 95000},
		{1, 1, 1, 100000, 1, 101000},
		{1, -1, 9, 100000, 1, 99000},
		{16, 1, 15, 100000, 16, 116000},
		{16, 1, 16, 100000, 16, 116000},
		// Of steps that are too few, or too many, the nearer end counts.
		{0, 1, 1, 100000, 1, 101000},
		{least, -1, 16, 100000, 1, 99000},
		{17, 1, 15, 100000, 16, 116000},
		{most, 1, 16, 100000, 16, 116000},
		// As far as the bounds allow.
		{5, 1, 1, 124900000, 2, 125000000},
		{5, -1, 1, 10100, 2, 10000},
	} {
		for _, worth := range []int{11, 12, most} {
			want := moving(x.side, x.next, x.to)
			want.Prev, want.Last, want.Asked = x.rate, worth, 0
			step{moving(x.side, x.step, x.rate), worth, s, want, 0}.check(t, steps(10486, x.n))
		}
	}
}

// tried is a steer of moving that tries a rate, by the first order of a tape that begins with 5.
func tried(side, rate, base int) api.Steer {
	x := moving(side, 1, rate)
	x.Phase, x.Asked = 2, 0
	x.X = api.Contest{Base: base, Step: 1, Order: dduu}
	return x
}

func TestTellWhenItIsNotBetter(t *testing.T) { // P22.3
	s := tape(5, 4, 2)
	for _, side := range []int{1, -1} {
		for _, steps := range []int{1, 2, 16} {
			for _, worth := range []int{10, 9, 0, -1, least} {
				step{moving(side, steps, 106111), worth, s, tried(side, 100000, 100000), 1}.check(t, usual())
			}
		}
	}
	// Worths below 0, and at the ends.
	x := moving(1, 1, 101000)
	for _, last := range []int{-5, 0, most, least} {
		x.Last = last
		want := tried(1, 100000, 100000)
		want.Last = last
		step{x, last, s, want, 1}.check(t, usual())
	}
	// The rate is as it is; what is tried about it is within the bounds.
	x = moving(1, 1, 101000)
	x.Prev = 7
	want := tried(1, 7, 10000)
	want.Prev = 7
	step{x, 0, s, want, 1}.check(t, usual())
}

func TestTellWhenThereIsNowhereToGo(t *testing.T) { // P22.3
	s := tape(5, 4, 2)
	check := func(c api.Config, side, steps, rate int) {
		t.Helper()
		want := tried(side, rate, rate)
		want.Prev, want.Last = rate, 11
		step{moving(side, steps, rate), 11, s, want, 1}.check(t, c)
	}
	check(usual(), 1, 1, 125000000)
	check(usual(), 1, 5, 125000000)
	check(usual(), -1, 1, 10000)
	check(usual(), -1, 3, 10000)
	// Steps that are too small lead nowhere, either.
	check(steps(1, 2), 1, 1, 200000)
	check(steps(1, 2), -1, 1, 200000)
	// From beyond the bounds there is a way back.
	x := moving(1, 1, 125000001)
	want := moving(1, 2, 125000000)
	want.Prev, want.Last, want.Asked = 125000001, 11, 0
	step{x, 11, s, want, 0}.check(t, usual())
	// It is the rate that was moved that counts, and not the one ahead of that.
	x = moving(1, 1, 101000)
	x.Prev = 103020
	want = moving(1, 2, 103020)
	want.Prev, want.Last, want.Asked = 101000, 11, 0
	step{x, 11, s, want, 0}.check(t, usual())
}

func TestTellWhatIsWrong(t *testing.T) { // P22.3
	check := func(x api.Steer, want api.Errno) {
		t.Helper()
		for _, s := range []api.Source{tape(1, 2), draw.Pcg(42, 54), {}} {
			if y, u, wrong := Tell(usual(), x, 5, s); y != (api.Steer{}) || !same(u, api.Source{}) || wrong != want {
				t.Errorf("%+v: %+v, %+v, %d", x, y, u, wrong)
			}
		}
	}
	trial := api.Contest{Base: 100000, Step: 2, Order: uddu}
	for _, x := range []api.Steer{
		{},
		{Asked: 1},
		{Phase: 1, Start: api.Start{Over: true}, Asked: 1},
		{Phase: 1, Start: api.Start{Over: true}}, // it is wrong ahead of not being asked
		{Phase: 1, Asked: 2},
		{Phase: 1, Asked: -1},
		{Phase: 2, Asked: 1},
		{Phase: 2},
		{Phase: 2, X: trial, Asked: 5},
		{Phase: 2, X: trial, Asked: -1},
		{Phase: 2, X: api.Contest{Base: 100000, Step: 2, Order: uddu, N: 4}, Asked: 4},
		{Phase: 2, X: api.Contest{Base: 100000, Step: 2, Order: uddu, N: 2}, Asked: 1},
		{Phase: 3, X: trial, Step: 1, Asked: 1},
		{Phase: 3, X: trial, Side: 1, Asked: 1},
		{Phase: 3, X: trial, Side: 1, Step: 1, Asked: 2},
		{Phase: 3, X: trial, Side: 1, Step: 17, Asked: 1},
		{Phase: 4, X: trial, Side: 1, Step: 1, Asked: 1},
		{Phase: -1, X: trial, Side: 1, Step: 1, Asked: 1},
	} {
		check(x, api.ErrArg)
	}
	check(New(usual()), api.ErrNone)
	check(api.Steer{Phase: 3, Side: 1, Step: 1}, api.ErrNone)
	for n := range 4 {
		trial.N = n
		check(api.Steer{Phase: 2, X: trial, Asked: n}, api.ErrNone)
	}
}

func TestTellWordForWord(t *testing.T) { // P22.3
	r := random(24)
	ends := map[[2]int]int{}
	check := func(c api.Config, x api.Steer, worth int) {
		t.Helper()
		s := r.source()
		y, u, wrong := Tell(c, x, worth, s)
		want, then, why := tellOf(c, x, worth, s)
		if y != want || !same(u, then) || wrong != why {
			t.Fatalf("%+v, %+v, %d: %+v, %+v, %d, not %+v, %+v, %d", c, x, worth, y, u, wrong, want, then, why)
		}
		if wrong == api.OK {
			ends[[2]int{x.Phase, y.Phase}]++
		}
	}
	for range 100000 {
		check(r.config(), r.loose(), r.near())
		check(r.config(), r.steer(), r.any())
		x := r.steer()
		x.Asked = 1 + x.X.N*(x.Phase-1)*(3-x.Phase)
		check(r.config(), x, r.near())
	}
	for _, c := range configs() {
		for _, rate := range edges() {
			for side := -1; side <= 1; side += 2 {
				x := moving(side, 3, rate)
				check(c, x, 11)
				check(c, x, 10)
				x.Prev, x.Rate = rate, 70000
				check(c, x, 10)
				x = trying(dudu, 3, 5, 5+side, 5)
				x.Rate = rate
				check(c, x, 5+side)
				check(c, x, 5)
				x = api.Steer{Phase: 1, Start: api.Start{Rate: rate, Best: -rate, Last: 7, N: 1}, Asked: 1}
				check(c, x, 7+side)
			}
		}
	}
	// Of all ways from phase to phase there were some.
	for _, way := range [][2]int{{1, 1}, {1, 2}, {2, 2}, {2, 3}, {3, 2}, {3, 3}} {
		if ends[way] < 500 {
			t.Errorf("%v: %d", way, ends[way])
		}
	}
	if len(ends) != 6 {
		t.Errorf("%v", ends)
	}
}

func TestARound(t *testing.T) { // P22.2, P22.3
	c, s := usual(), tape(2, 4)
	rates, x, s := told(t, c, New(c), s, 5, 6, 6)
	if !slices.Equal(rates, []int{50000, 100000, 200000}) || x.Phase != api.PhaseTry || x.Rate != 100000 || s.At != 1 {
		t.Fatalf("%v, %+v", rates, x)
	}
	rates, x, s = told(t, c, x, s, 9, 8, 7, 8)
	if !slices.Equal(rates, []int{101000, 99000, 99000, 101000}) || x.Phase != api.PhaseMove || x.Last != 8 || s.At != 1 {
		t.Fatalf("%v, %+v", rates, x)
	}
	rates, x, s = told(t, c, x, s, 9, 10, 10)
	if !slices.Equal(rates, []int{101000, 103020, 106111}) || x.Phase != api.PhaseTry || x.Rate != 103020 || s.At != 2 {
		t.Fatalf("%v, %+v", rates, x)
	}
	// The tape is over: 0 is drawn from here on.
	rates, x, s = told(t, c, x, s, 1, 1, 1, 1, 1, 1, 2, 2)
	if !slices.Equal(rates, []int{101990, 104050, 101990, 104050, 105080, 105080, 100960, 100960}) || x.Phase != api.PhaseMove || x.Side != -1 || x.Rate != 101990 || s.At != 2 {
		t.Fatalf("%v, %+v", rates, x)
	}
}

func TestWorthsThatComeLate(t *testing.T) { // P22.2, P22.3
	r := random(25)
	for range 2000 {
		c := r.right()
		x := New(c)
		s := draw.Pcg(uint64(r.size()), 1)
		// The same steer, told at once: what it asks must not hang on when the worths come.
		y, u := x, s
		var due []int
		for range 60 {
			rate, wanted, z := Ask(c, x)
			if x = z; wanted {
				due = append(due, rate)
			} else if rate != x.Rate {
				t.Fatalf("%+v: %d", x, rate)
			}
			if len(due) == 0 || r.below(3) > 0 && wanted {
				continue
			}
			early, _, then := Ask(c, y)
			worth, wrong := early%1000, api.OK
			if x, s, wrong = Tell(c, x, worth, s); wrong != api.OK || early != due[0] {
				t.Fatalf("%+v: %d, not %d, %d", x, due[0], early, wrong)
			}
			if y, u, wrong = Tell(c, then, worth, u); wrong != api.OK || !same(s, u) {
				t.Fatalf("%+v: %d", y, wrong)
			}
			due = due[1:]
		}
	}
}

func TestLoop(t *testing.T) { // P22.4
	c := usual()
	for _, x := range []struct {
		room, times int
		s           api.Source
		asked       []int
	}{
		{200000, 1, api.Source{}, []int{50000}},
		{200000, 14, api.Source{}, []int{50000, 100000, 200000, 400000, 202000, 202000, 198000, 198000, 198000, 194040, 199980, 199980, 196020, 196020}},
		{1000000, 9, tape(5), []int{50000, 100000, 200000, 400000, 800000, 1600000, 792000, 792000, 808000}},
		{0, 7, tape(2, 3), []int{50000, 100000, 50500, 49500, 49500, 50500, 49500}}, // all is lost: less costs less
		{least, 7, tape(2, 3), []int{50000, 100000, 50500, 49500, 49500, 50500, 49500}},
		{most, 14, tape(0), []int{50000, 100000, 200000, 400000, 800000, 1600000, 3200000, 6400000, 12800000, 25600000, 51200000, 102400000, 125000000, 125000000}},
	} {
		if asked, _ := Loop(c, x.room, x.times, x.s); !slices.Equal(asked, x.asked) {
			t.Errorf("%d, %d: %v", x.room, x.times, asked)
		}
	}
}

func TestHowLongLoopsAre(t *testing.T) { // P22.4
	c, s := usual(), draw.Pcg(42, 54)
	all, last := Loop(c, 200000, 200, s)
	for _, times := range append(edges(), 2, 9, 100, 198, 202, 1000) {
		asked, x := Loop(c, 200000, times, s)
		if n := max(min(times, 200), 0); len(asked) != n || !slices.Equal(asked, all[:n]) {
			t.Errorf("%d: %v", times, asked)
		}
		if times <= 0 && x != New(c) || times >= 200 && x != last {
			t.Errorf("%d: %+v", times, x)
		}
	}
}

func TestLoopWordForWord(t *testing.T) { // P22.4
	check := func(c api.Config, room, times int, s api.Source) {
		t.Helper()
		asked, x := Loop(c, room, times, s)
		if want, then := loopOf(c, room, times, s); !slices.Equal(asked, want) || x != then {
			t.Fatalf("%+v, %d, %d: %v, %+v, not %v, %+v", c, room, times, asked, x, want, then)
		}
	}
	r := random(26)
	for _, c := range configs() {
		for _, room := range []int{least, -1, 0, 1, 10000, 60000, 199000, 125000000, api.Top, most} {
			check(c, room, 40, r.source())
		}
	}
	for range 300 {
		check(r.right(), r.below(1200000000)>>r.below(20), r.below(80), r.source())
		check(r.strange(), r.any(), r.below(60), r.source())
	}
	check(r.right(), 5000000, r.any(), r.source())
}

func TestLoopsShareNothing(t *testing.T) { // P22.4
	l := []uint64{5, 4, 3, 2, 1, 0}
	asked, _ := Loop(usual(), 200000, 9, draw.Tape(l))
	others, _ := Loop(usual(), 200000, 9, draw.Tape(l))
	for i := range others {
		others[i] = -7
	}
	if want, _ := loopOf(usual(), 200000, 9, tape(5, 4, 3, 2, 1, 0)); !slices.Equal(asked, want) || !slices.Equal(l, []uint64{5, 4, 3, 2, 1, 0}) {
		t.Errorf("%v, %v", asked, l)
	}
}

func TestNothingElseCounts(t *testing.T) { // P22.1 to P22.3
	other := api.Config{Mode: 9, Packet: 1, Burst: 2, Ring: 3, MiMin: 4, MiMax: 5, Timeout: 6, Omega: 9, Widen: 10, Gain: 11, Knee: 12, Slope: 13, Power: 14, Lag: 15, Loss: 16, Jitter: 17, Cut: 18}
	r := random(27)
	for range 20000 {
		c, x, worth, s := r.config(), r.loose(), r.near(), r.source()
		other.MinRate, other.MaxRate, other.StartRate, other.Eps, other.Steps = c.MinRate, c.MaxRate, c.StartRate, c.Eps, c.Steps
		rate, wanted, y := Ask(c, x)
		again, is, z := Ask(other, x)
		if New(c) != New(other) || rate != again || wanted != is || y != z {
			t.Fatalf("%+v, %+v", c, x)
		}
		other.StartRate = r.any()
		y, u, wrong := Tell(c, x, worth, s)
		z, v, why := Tell(other, x, worth, s)
		if y != z || !same(u, v) || wrong != why {
			t.Fatalf("%+v, %+v, %d", c, x, worth)
		}
	}
}

func TestWhatIsRightStaysRight(t *testing.T) { // P22.5
	r := random(28)
	for range 100000 {
		c, x := r.config(), r.steer()
		_, _, y := Ask(c, x)
		z, _, wrong := Tell(c, y, r.near(), r.source())
		if !Is(y) || wrong == api.OK && !Is(z) || wrong != api.OK && wrong != api.ErrNone {
			t.Fatalf("%+v, %+v: %+v, %+v, %d", c, x, y, z, wrong)
		}
	}
	for range 500 {
		c, s := r.strange(), r.source()
		x := New(c)
		for range 100 {
			_, x, s = told(t, c, x, s, r.any())
		}
	}
}

func TestHowFarOneWorthGoes(t *testing.T) { // P22.5
	r := random(29)
	twice, halves := 0, 0
	for range 2000 {
		c, s := r.right(), draw.Pcg(uint64(r.size()), 1)
		if wrong := config.Check(c); wrong != api.OK {
			t.Fatalf("%+v: %d", c, wrong)
		}
		x := New(c)
		// A walk goes up more often, or down, or to and fro.
		drift := r.below(3) - 1
		for n := range 150 {
			rates, y, u := told(t, c, x, s, r.near()+n*drift)
			if rates[0] < c.MinRate || rates[0] > c.MaxRate || y.Rate < c.MinRate || y.Rate > c.MaxRate {
				t.Fatalf("%+v, %+v: %v, %+v", c, x, rates, y)
			}
			if y.Rate > 2*x.Rate+2 || 2*(y.Rate+1) < x.Rate {
				t.Fatalf("%+v, %+v: %+v", c, x, y)
			}
			if y.Rate >= 2*x.Rate-1 {
				twice++
			}
			if y.Rate <= x.Rate/2+1 {
				halves++
			}
			x, s = y, u
		}
	}
	if twice < 500 || halves < 500 {
		t.Errorf("%d, %d", twice, halves)
	}
}

// kept is the rate of which a steer knows already what it is worth: on the way to another one it is that ahead.
func kept(x api.Steer) int {
	if x.Phase == api.PhaseMove {
		return x.Prev
	}
	return x.Rate
}

// roomy is a way with room for a config's first rate at least.
func (r *random) roomy(c api.Config) int {
	switch r.below(3) {
	case 0:
		return c.StartRate + r.size()
	case 1:
		return c.StartRate + r.below(3)
	}
	return c.StartRate + r.below(c.MaxRate-c.StartRate+1)>>r.below(20)
}

// twiceAs tells whether two times a, and 2, is not below b.
func twiceAs(a, b int) bool {
	twice := big.NewInt(int64(a))
	twice.Lsh(twice, 1).Add(twice, big.NewInt(2))
	return twice.Cmp(big.NewInt(int64(b))) >= 0
}

func TestHowFarLoopsGo(t *testing.T) { // P22.5
	r := random(30)
	for range 300 {
		c := r.right()
		room := r.roomy(c)
		x, s := New(c), draw.Pcg(uint64(r.size()), 1)
		for range 150 {
			rate, _, _ := Ask(c, x)
			_, x, s = told(t, c, x, s, allegro.Model(c, rate, room))
			if x.Phase == api.PhaseStart {
				continue
			}
			if x.Rate/2 > room || x.Rate/2 == room && x.Rate%2 == 1 {
				t.Fatalf("%+v, %d: %+v is too much", c, room, x)
			}
			if n := kept(x); !twiceAs(n, room) && n != c.MaxRate {
				t.Fatalf("%+v, %d: %+v is not enough", c, room, x)
			}
		}
	}
}

func TestHowFarUsualLoopsGo(t *testing.T) { // P22.5
	c, r := usual(), random(31)
	for range 60 {
		room := c.StartRate + r.below(200000000)>>r.below(15)
		for _, times := range []int{50, 199, 200} {
			// By small steps it holds on the way to another rate, too.
			if _, x := Loop(c, room, times, draw.Pcg(uint64(r.size()), 1)); x.Rate > 2*room || !twiceAs(x.Rate, room) && x.Rate != c.MaxRate || x.Phase == api.PhaseStart {
				t.Errorf("%d, %d: %+v", room, times, x)
			}
		}
	}
}

func TestRoomForAllThatIsTried(t *testing.T) { // P22.5
	r := random(32)
	up, none := 0, 0
	for range 2000 {
		c := r.right()
		rate, n := c.MinRate+r.below(c.MaxRate-c.MinRate+1)>>r.below(20), 1+r.below(16)
		order, s := order.Trials(r.source())
		trial, _ := contest.New(c, rate, n, order)
		x := api.Steer{Phase: api.PhaseTry, X: trial, Rate: rate, Step: n}
		rates := contest.Rates(c, trial)
		room := slices.Max(rates[:]) + r.size()>>r.below(40)
		for _, rate := range rates {
			_, x, s = told(t, c, x, s, allegro.Model(c, rate, room))
		}
		// Where a step is less than half a byte, or beyond the bounds, there is no greater rate to go to.
		next := contest.Move(c, rate, 1, 1)
		switch {
		case next == rate && x.Rate == rate:
			none++
		case next == rate || x.Rate != next || x.Phase != api.PhaseMove || x.Side != 1:
			t.Errorf("%+v, %d, %d: %+v", c, rate, room, x)
		default:
			up++
		}
	}
	if up < 1000 || none < 10 {
		t.Errorf("%d, %d", up, none)
	}
}
