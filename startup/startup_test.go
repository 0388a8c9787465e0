package startup

import (
	"math"
	"math/big"
	"slices"
	"testing"

	"pacemaker/allegro"
	"pacemaker/api"
	"pacemaker/config"
)

const (
	top   = 4611686018427387904
	most  = math.MaxInt
	least = math.MinInt
)

func bigOf(n int) *big.Int { return big.NewInt(int64(n)) }

// boundOf is layer 8's.
func boundOf(c api.Config, rate int) int {
	switch {
	case rate < c.MinRate:
		return c.MinRate
	case rate > c.MaxRate:
		return c.MaxRate
	}
	return rate
}

// twiceOf is layer 8's step of a rate by the whole of it, up.
func twiceOf(c api.Config, rate int) int {
	twice := bigOf(max(min(boundOf(c, rate), top), -top))
	twice.Lsh(twice, 1)
	switch {
	case twice.Cmp(bigOf(top)) > 0:
		return boundOf(c, top)
	case twice.Cmp(bigOf(-top)) < 0:
		return boundOf(c, -top)
	}
	return boundOf(c, int(twice.Int64()))
}

// nextOf is P17.2 word for word.
func nextOf(c api.Config, s api.Start, worth int) api.Start {
	if s.Over {
		return s
	}
	if s.N != 0 && worth <= s.Last {
		return api.Start{Rate: s.Best, Best: s.Best, Last: s.Last, N: s.N, Over: true}
	}
	told := api.Start{Rate: twiceOf(c, s.Rate), Best: s.Rate, Last: worth, N: 1}
	if s.N != most {
		told.N = s.N + 1
	}
	if told.Rate <= s.Rate {
		told.Rate, told.Over = s.Rate, true
	}
	return told
}

// runOf is P17.3 word for word.
func runOf(c api.Config, room, times int) (api.Start, []int) {
	s := api.Start{Rate: boundOf(c, c.StartRate)}
	var asked []int
	for n := 0; n < min(times, 100) && !s.Over; n++ {
		asked = append(asked, s.Rate)
		s = nextOf(c, s, allegro.Model(c, s.Rate, room))
	}
	return s, asked
}

// by is a usual config, but with these rates.
func by(low, high, start int) api.Config {
	c := config.Usual(api.Allegro)
	c.MinRate, c.MaxRate, c.StartRate = low, high, start
	return c
}

// bounds are right configs, and others, whose least and greatest rates are far apart, near, the same, in the wrong order, and at all ends.
func bounds() []api.Config {
	var l []api.Config
	for _, x := range [][3]int{
		{10000, 125000000, 50000}, {1000, 1000000000, 1000}, {50000, 50000, 50000}, {10001, 10002, 10001}, {20000, 10000, 15000}, {0, 0, 0}, {0, 100, 50}, {1, 100, 0}, {-5, 5, 1}, {-1000, -10, -20},
		{5, -5, 0}, {least, most, 1}, {most, least, 0}, {least, least, 5}, {most, most, 5}, {0, most, top - 1}, {1, most, 1}, {top - 1, top + 1, top}, {-top - 1, 0, -top}, {1, top, top / 2}, {1, top, top/2 + 1},
	} {
		l = append(l, by(x[0], x[1], x[2]))
	}
	return l
}

// edges are 0, the ends of all kinds, what is beside them, and some others.
func edges() []int {
	l := []int{least, least + 1, most - 1, most, 62500000, 62499999, 62500001}
	for _, n := range []int{0, 3, 1000, 5000, 10000, 50000, 1000000, 125000000, 1000000000, 1 << 40, top / 4, top / 2, top} {
		for beside := -1; beside <= 1; beside++ {
			l = append(l, n+beside, -n+beside)
		}
	}
	slices.Sort(l)
	return slices.Compact(l)
}

// random makes the same numbers at each run.
type random uint64

func (r *random) below(n int) int {
	*r = *r*6364136223846793005 + 1442695040888963407
	return int(uint64(*r)>>33) % n
}

// size is any int that is not below 0, small or great.
func (r *random) size() int {
	return (r.below(1<<31)<<32 | r.below(1<<31)<<1 | r.below(2)) >> r.below(63)
}

// any is any int, small or great, of both signs.
func (r *random) any() int {
	n := r.size()
	if r.below(2) == 0 {
		return ^n
	}
	return n
}

// right is a right config of any mode, with a rate's curve of any kind.
func (r *random) right() api.Config {
	c := config.Usual(1 + r.below(5))
	c.MinRate = 1000 + r.below(1000000000-999)>>r.below(30)
	c.MaxRate = c.MinRate + r.below(1000000001-c.MinRate)>>r.below(30)
	c.StartRate = c.MinRate + r.below(c.MaxRate-c.MinRate+1)>>r.below(30)
	c.Slope, c.Knee = 1+r.size()>>23, 1+r.below(524288)
	return c
}

// strange is any config, right or not.
func (r *random) strange() api.Config {
	c := by(r.any(), r.any(), r.any())
	c.Slope, c.Knee = r.any(), r.any()
	return c
}

// phase is any phase, whether or not it may come to be.
func (r *random) phase() api.Start {
	return api.Start{Rate: r.any(), Best: r.any(), Last: r.any(), N: r.any(), Over: r.below(4) == 0}
}

func TestTheChaptersExamples(t *testing.T) { // P17.3
	s, asked := Run(config.Usual(api.Allegro), 200000, 100)
	if !slices.Equal(asked, []int{50000, 100000, 200000, 400000}) || s.Rate != 200000 || !s.Over {
		t.Errorf("%+v, %v", s, asked)
	}
}

func TestNew(t *testing.T) { // P17.1
	for _, x := range []struct{ low, high, start, want int }{
		{10000, 125000000, 50000, 50000},
		{10000, 125000000, 9999, 10000},
		{10000, 125000000, 10000, 10000},
		{10000, 125000000, 10001, 10001},
		{10000, 125000000, 124999999, 124999999},
		{10000, 125000000, 125000000, 125000000},
		{10000, 125000000, 125000001, 125000000},
		{10000, 125000000, 0, 10000},
		{10000, 125000000, -50000, 10000},
		{10000, 125000000, least, 10000},
		{10000, 125000000, most, 125000000},
		{20000, 10000, 15000, 20000}, // bounds in the wrong order: the lower one first
		{20000, 10000, 30000, 10000},
		{-30, -10, 5, -10},
		{least, most, least, least},
		{least, most, most, most},
		{least, most, 0, 0},
	} {
		if s := New(by(x.low, x.high, x.start)); s != (api.Start{Rate: x.want}) {
			t.Errorf("%+v: %+v", x, s)
		}
	}
}

func TestNewWordForWord(t *testing.T) { // P17.1
	for _, c := range bounds() {
		for _, c.StartRate = range edges() {
			if s := New(c); s != (api.Start{Rate: boundOf(c, c.StartRate)}) {
				t.Errorf("%d, %d, %d: %+v", c.MinRate, c.MaxRate, c.StartRate, s)
			}
		}
	}
}

// step is what a usual phase is told, and what comes of it.
type step struct {
	s     api.Start
	worth int
	want  api.Start
}

func (x step) check(t *testing.T) {
	t.Helper()
	if s := Next(config.Usual(api.Vivace), x.s, x.worth); s != x.want {
		t.Errorf("%+v, %d: %+v", x.s, x.worth, s)
	}
}

func TestWhatIsTold(t *testing.T) { // P17.2
	for _, x := range []step{
		{api.Start{Rate: 50000}, 7, api.Start{Rate: 100000, Best: 50000, Last: 7, N: 1}},
		{api.Start{Rate: 50000}, 0, api.Start{Rate: 100000, Best: 50000, Last: 0, N: 1}},
		{api.Start{Rate: 50000}, -7, api.Start{Rate: 100000, Best: 50000, Last: -7, N: 1}}, // the first one is better, whatever it is worth
		{api.Start{Rate: 50000, Best: 3, Last: 9}, 7, api.Start{Rate: 100000, Best: 50000, Last: 7, N: 1}},
		{api.Start{Rate: 100000, Best: 50000, Last: 7, N: 1}, 8, api.Start{Rate: 200000, Best: 100000, Last: 8, N: 2}},
		{api.Start{Rate: 100000, Best: 50000, Last: 7, N: 1}, 7, api.Start{Rate: 50000, Best: 50000, Last: 7, N: 1, Over: true}},
		{api.Start{Rate: 100000, Best: 50000, Last: 7, N: 1}, 6, api.Start{Rate: 50000, Best: 50000, Last: 7, N: 1, Over: true}},
		{api.Start{Rate: 100000, Best: 50000, Last: -7, N: 1}, -6, api.Start{Rate: 200000, Best: 100000, Last: -6, N: 2}},
		{api.Start{Rate: 100000, Best: 50000, Last: -7, N: 1}, -8, api.Start{Rate: 50000, Best: 50000, Last: -7, N: 1, Over: true}},
		{api.Start{Rate: 400000, Best: 200000, Last: 7, N: 3}, 8, api.Start{Rate: 800000, Best: 400000, Last: 8, N: 4}},
		{api.Start{Rate: 400000, Best: 200000, Last: 7, N: 3}, 0, api.Start{Rate: 200000, Best: 200000, Last: 7, N: 3, Over: true}},
		{api.Start{Rate: 200000, Best: 200000, Last: 7, N: 3, Over: true}, 8, api.Start{Rate: 200000, Best: 200000, Last: 7, N: 3, Over: true}},
		{api.Start{Rate: 5, Best: 4, Last: 7, Over: true}, 8, api.Start{Rate: 5, Best: 4, Last: 7, Over: true}}, // whatever it was
	} {
		x.check(t)
	}
}

func TestWhereRatesEnd(t *testing.T) { // P17.2
	for _, x := range []step{
		{api.Start{Rate: 62499999, N: 1}, 1, api.Start{Rate: 124999998, Best: 62499999, Last: 1, N: 2}},
		{api.Start{Rate: 62500000, N: 1}, 1, api.Start{Rate: 125000000, Best: 62500000, Last: 1, N: 2}},
		{api.Start{Rate: 62500001, N: 1}, 1, api.Start{Rate: 125000000, Best: 62500001, Last: 1, N: 2}},
		{api.Start{Rate: 124999999, N: 1}, 1, api.Start{Rate: 125000000, Best: 124999999, Last: 1, N: 2}},
		{api.Start{Rate: 125000000, N: 1}, 1, api.Start{Rate: 125000000, Best: 125000000, Last: 1, N: 2, Over: true}},
		{api.Start{Rate: 125000000, N: 1}, 0, api.Start{Rate: 0, N: 1, Over: true}},
		{api.Start{Rate: 125000001, N: 1}, 1, api.Start{Rate: 125000001, Best: 125000001, Last: 1, N: 2, Over: true}},
		{api.Start{Rate: most}, 1, api.Start{Rate: most, Best: most, Last: 1, N: 1, Over: true}},
		{api.Start{Rate: 9999}, 1, api.Start{Rate: 20000, Best: 9999, Last: 1, N: 1}}, // it is bounded ahead of the step
		{api.Start{Rate: 1}, 1, api.Start{Rate: 20000, Best: 1, Last: 1, N: 1}},
		{api.Start{Rate: 0}, 1, api.Start{Rate: 20000, Best: 0, Last: 1, N: 1}},
		{api.Start{Rate: -1}, 1, api.Start{Rate: 20000, Best: -1, Last: 1, N: 1}},
		{api.Start{Rate: least}, 1, api.Start{Rate: 20000, Best: least, Last: 1, N: 1}},
		{api.Start{Rate: 50000, Best: most, N: 1}, 0, api.Start{Rate: most, Best: most, N: 1, Over: true}}, // the best one is kept as it is
		{api.Start{Rate: 50000, Best: least, N: 1}, 0, api.Start{Rate: least, Best: least, N: 1, Over: true}},
	} {
		x.check(t)
	}
}

func TestWhereCountsAndWorthsEnd(t *testing.T) { // P17.2
	for _, x := range []step{
		{api.Start{Rate: 50000, N: most - 1}, 1, api.Start{Rate: 100000, Best: 50000, Last: 1, N: most}},
		{api.Start{Rate: 50000, N: most}, 1, api.Start{Rate: 100000, Best: 50000, Last: 1, N: 1}},
		{api.Start{Rate: 50000, N: most}, 0, api.Start{N: most, Over: true}},
		{api.Start{Rate: 50000, N: -1}, 1, api.Start{Rate: 100000, Best: 50000, Last: 1}},
		{api.Start{Rate: 50000, N: -1}, 0, api.Start{N: -1, Over: true}},
		{api.Start{Rate: 50000, N: least}, 1, api.Start{Rate: 100000, Best: 50000, Last: 1, N: least + 1}},
		{api.Start{Rate: 50000}, most, api.Start{Rate: 100000, Best: 50000, Last: most, N: 1}},
		{api.Start{Rate: 50000}, least, api.Start{Rate: 100000, Best: 50000, Last: least, N: 1}},
		{api.Start{Rate: 50000, Last: most - 1, N: 1}, most, api.Start{Rate: 100000, Best: 50000, Last: most, N: 2}},
		{api.Start{Rate: 50000, Last: most, N: 1}, most, api.Start{Last: most, N: 1, Over: true}},
		{api.Start{Rate: 50000, Last: least, N: 1}, least, api.Start{Last: least, N: 1, Over: true}},
		{api.Start{Rate: 50000, Last: least, N: 1}, most, api.Start{Rate: 100000, Best: 50000, Last: most, N: 2}}, // farther apart than any int is great
		{api.Start{Rate: 50000, Last: most, N: 1}, least, api.Start{Last: most, N: 1, Over: true}},
	} {
		x.check(t)
	}
}

func TestNextWordForWord(t *testing.T) { // P17.2
	check := func(c api.Config, s api.Start, worth int) {
		t.Helper()
		if n, want := Next(c, s, worth), nextOf(c, s, worth); n != want {
			t.Fatalf("%d to %d: %+v, %d: %+v, not %+v", c.MinRate, c.MaxRate, s, worth, n, want)
		}
	}
	for _, c := range bounds() {
		for _, rate := range edges() {
			for _, worth := range []int{least, -1, 0, 1, most} {
				check(c, api.Start{Rate: rate}, worth)
				check(c, api.Start{Rate: rate, Best: -rate, Last: worth, N: 1}, 0)
				check(c, api.Start{Rate: rate, Best: 5, N: rate}, worth)
				check(c, api.Start{Rate: rate, Best: 5, Last: rate, Over: true}, worth)
			}
		}
	}
	r := random(17)
	for range 100000 {
		c, s, worth := r.strange(), r.phase(), r.any()
		check(c, s, worth)
		check(c, s, s.Last)
		s.N = 0
		check(c, s, worth)
	}
}

func TestNothingElseCountsToAPhase(t *testing.T) { // P17.1, P17.2
	other := api.Config{Mode: 9, Packet: 1, Burst: 2, Ring: 3, MiMin: 4, MiMax: 5, Timeout: 6, Eps: 7, Steps: 8, Omega: 9, Widen: 10, Gain: 11, Knee: 12, Slope: 13, Power: 14, Lag: 15, Loss: 16, Jitter: 17, Cut: 18}
	r := random(18)
	for range 10000 {
		c, s, worth := r.strange(), r.phase(), r.any()
		other.MinRate, other.MaxRate, other.StartRate = c.MinRate, c.MaxRate, c.StartRate
		if New(c) != New(other) {
			t.Fatalf("%+v", c)
		}
		other.StartRate = r.any()
		if Next(c, s, worth) != Next(other, s, worth) {
			t.Fatalf("%+v, %+v, %d", c, s, worth)
		}
	}
}

func TestRuns(t *testing.T) { // P17.3
	for _, x := range []struct {
		room, last int
		asked      []int
	}{
		{least, 50000, []int{50000, 100000}}, // all is lost: more costs more
		{-1, 50000, []int{50000, 100000}},
		{0, 50000, []int{50000, 100000}},
		{25000, 50000, []int{50000, 100000}},
		{50000, 50000, []int{50000, 100000}},
		{99999, 100000, []int{50000, 100000, 200000}}, // hardly any is lost
		{100000, 100000, []int{50000, 100000, 200000}},
		{190000, 100000, []int{50000, 100000, 200000}}, // a twentieth is lost
		{199000, 200000, []int{50000, 100000, 200000, 400000}},
		{399999, 400000, []int{50000, 100000, 200000, 400000, 800000}},
		{40000000, 25600000, []int{50000, 100000, 200000, 400000, 800000, 1600000, 3200000, 6400000, 12800000, 25600000, 51200000}},
		{110000000, 102400000, []int{50000, 100000, 200000, 400000, 800000, 1600000, 3200000, 6400000, 12800000, 25600000, 51200000, 102400000, 125000000}},
		{125000000, 125000000, []int{50000, 100000, 200000, 400000, 800000, 1600000, 3200000, 6400000, 12800000, 25600000, 51200000, 102400000, 125000000}},
		{most, 125000000, []int{50000, 100000, 200000, 400000, 800000, 1600000, 3200000, 6400000, 12800000, 25600000, 51200000, 102400000, 125000000}},
	} {
		s, asked := Run(config.Usual(api.Allegro), x.room, 100)
		if s.Rate != x.last || s.Best != x.last || !s.Over || !slices.Equal(asked, x.asked) {
			t.Errorf("%d: %+v, %v", x.room, s, asked)
		}
	}
}

func TestWhatARunTells(t *testing.T) { // P17.3
	// A room of 200000 and the usual curve: a rate is worth its units, nearly all of them, as long as none is lost.
	for times, want := range []api.Start{
		{Rate: 50000},
		{Rate: 100000, Best: 50000, Last: 52077900, N: 1},
		{Rate: 200000, Best: 100000, Last: 104155800, N: 2},
		{Rate: 400000, Best: 200000, Last: 208311600, N: 3},
		{Rate: 200000, Best: 200000, Last: 208311600, N: 3, Over: true},
		{Rate: 200000, Best: 200000, Last: 208311600, N: 3, Over: true},
	} {
		s, asked := Run(config.Usual(api.Allegro), 200000, times)
		if s != want || !slices.Equal(asked, []int{50000, 100000, 200000, 400000}[:min(times, 4)]) {
			t.Errorf("%d: %+v, %v", times, s, asked)
		}
	}
}

func TestRunsThatAreCutShort(t *testing.T) { // P17.3
	c := by(1, most, 1)
	whole, all := Run(c, most, 100)
	if !whole.Over || len(all) < 50 {
		t.Fatalf("%+v, %v", whole, all)
	}
	for _, times := range append(edges(), 2, 10, 22, 23, 64, 65, 99, 101) {
		s, asked := Run(c, most, times)
		if n := max(min(times, len(all)), 0); !slices.Equal(asked, all[:n]) || s.Over != (n == len(all)) {
			t.Errorf("%d: %+v, %v", times, s, asked)
		}
		if times <= 0 && s != New(c) {
			t.Errorf("%d: %+v", times, s)
		}
		if times >= 100 && s != whole {
			t.Errorf("%d: %+v", times, s)
		}
	}
}

func TestRunWordForWord(t *testing.T) { // P17.3
	check := func(c api.Config, room, times int) {
		t.Helper()
		s, asked := Run(c, room, times)
		if want, rates := runOf(c, room, times); s != want || !slices.Equal(asked, rates) {
			t.Fatalf("%+v, %d, %d: %+v, %v, not %+v, %v", c, room, times, s, asked, want, rates)
		}
	}
	for _, c := range bounds() {
		for _, room := range edges() {
			for _, times := range []int{least, 0, 1, 2, 5, 100, most} {
				check(c, room, times)
			}
		}
	}
	r := random(19)
	for range 2000 {
		check(r.right(), r.below(1200000000), r.below(30))
		check(r.right(), r.any(), 100)
		check(r.strange(), r.any(), r.below(120))
		check(r.strange(), most, r.any())
	}
}

func TestRunsShareNothing(t *testing.T) { // P17.3
	_, asked := Run(config.Usual(api.Allegro), 200000, 100)
	_, others := Run(by(1000, 2000, 1000), 200000, 100)
	others[0], others[1] = -5, -6
	if want := []int{50000, 100000, 200000, 400000}; !slices.Equal(asked, want) {
		t.Errorf("%v", asked)
	}
	if _, again := Run(by(1000, 2000, 1000), 200000, 100); !slices.Equal(again, []int{1000, 2000}) {
		t.Errorf("%v", again)
	}
}

func TestModesDoNotCountToARun(t *testing.T) { // P17.3
	s, asked := Run(config.Usual(api.Allegro), 3000000, 100)
	for mode := range 7 {
		if n, rates := Run(config.Usual(mode), 3000000, 100); n != s || !slices.Equal(asked, rates) {
			t.Errorf("%d: %+v, %v", mode, n, rates)
		}
	}
}

// checkRight tells what is wrong with a run by a right config.
func checkRight(t *testing.T, c api.Config, room int) {
	t.Helper()
	if wrong := config.Check(c); wrong != api.OK {
		t.Fatalf("%+v: %d", c, wrong)
	}
	s, asked := Run(c, room, 100)
	if !s.Over || len(asked) > 22 || !slices.Contains(asked, s.Rate) {
		t.Errorf("%+v, %d: %+v, %v", c, room, s, asked)
	}
	for i, rate := range asked {
		if i == 0 && rate != c.StartRate || i > 0 && rate != min(2*asked[i-1], c.MaxRate) {
			t.Errorf("%+v, %d: %v", c, room, asked)
		}
	}
	if room < c.StartRate {
		return
	}
	if s.Rate != c.MaxRate && bigOf(2*s.Rate).Cmp(bigOf(room)) <= 0 {
		t.Errorf("%+v, %d: %+v is not enough", c, room, s)
	}
	if twice := bigOf(room); bigOf(s.Rate).Cmp(twice.Lsh(twice, 1)) > 0 {
		t.Errorf("%+v, %d: %+v is too much", c, room, s)
	}
}

func TestRightConfigs(t *testing.T) { // P17.4
	r := random(20)
	for range 2500 {
		c := r.right()
		checkRight(t, c, r.any())
		checkRight(t, c, c.StartRate)
		checkRight(t, c, c.StartRate-1)
		checkRight(t, c, c.MaxRate)
		checkRight(t, c, c.StartRate+r.below(1<<31)>>r.below(31))
		_, asked := Run(c, most, 100)
		near := asked[r.below(len(asked))]
		checkRight(t, c, near+r.below(3)-1)
		checkRight(t, c, near/100*(95+r.below(10)))
	}
}

func TestTheLongestRun(t *testing.T) { // P17.4
	c := by(1000, 1000000000, 1000)
	checkRight(t, c, 1000000000)
	s, asked := Run(c, 1000000000, 100)
	if len(asked) != 21 || asked[19] != 524288000 || asked[20] != 1000000000 || s.Rate != 1000000000 || s.N != 21 {
		t.Errorf("%+v, %v", s, asked)
	}
}
