package proteus

import (
	"math"
	"math/big"
	"slices"
	"testing"

	"pacemaker/allegro"
	"pacemaker/api"
	"pacemaker/config"
	"pacemaker/power"
	"pacemaker/vivace"
)

const (
	one    = 1048576
	top    = 4611686018427387904
	most   = math.MaxInt
	least  = math.MinInt
	second = 1000000 * one // as a fixed number of microseconds
	pow    = 943718        // the usual power
	lag    = 943718400     // the usual lag, 900
	loss   = 11927552      // the usual loss, 11 and 3 eighths
	jitter = 1572864000    // the usual jitter, 1500
)

func bigOf(n int) *big.Int { return big.NewInt(int64(n)) }

// held is the fixed number that n means.
func held(n *big.Int) int {
	switch {
	case n.Cmp(bigOf(top)) > 0:
		return top
	case n.Cmp(bigOf(-top)) < 0:
		return -top
	}
	return int(n.Int64())
}

func fixed(n int) int { return held(bigOf(n)) }

// scaled is a times n, by d, which is above 0, as layer 2 tells it.
func scaled(a, n, d int) int {
	all := new(big.Int).Mul(bigOf(fixed(a)), bigOf(n))
	size := new(big.Int).Abs(all)
	size.Add(size.Lsh(size, 1), bigOf(d))
	size.Quo(size, bigOf(2*d))
	return held(size.Mul(size, bigOf(all.Sign())))
}

// product is layer 2's.
func product(a, b int) int { return scaled(a, fixed(b), one) }

// less is layer 2's.
func less(a, b int) int { return held(new(big.Int).Sub(bigOf(fixed(a)), bigOf(fixed(b)))) }

// units are layer 13's.
func units(rate int) int { return scaled(rate, one, 1000) }

// baseOf is P15.1 word for word.
func baseOf(c api.Config, s api.Stats, grade int) int {
	x := units(s.Rate)
	left := less(power.Pow(x, c.Power), product(c.Lag, product(x, grade)))
	return less(left, product(c.Loss, product(x, s.Loss)))
}

// primaryOf, scavengerOf and mixedOf are P16.1 word for word.
func primaryOf(c api.Config, s api.Stats) int {
	if s.Grade < 0 {
		return baseOf(c, s, 0)
	}
	return baseOf(c, s, s.Grade)
}

func scavengerOf(c api.Config, s api.Stats) int {
	return less(primaryOf(c, s), product(c.Jitter, product(units(s.Rate), scaled(s.Dev, 1, 1000000))))
}

func mixedOf(c api.Config, s api.Stats) int {
	if bigOf(s.Rate).Cmp(bigOf(c.Cut)) < 0 {
		return primaryOf(c, s)
	}
	return scavengerOf(c, s)
}

// by is a usual config, but with these.
func by(power, lag, loss, jitter int) api.Config {
	c := config.Usual(api.ProteusS)
	c.Power, c.Lag, c.Loss, c.Jitter = power, lag, loss, jitter
	return c
}

// edges are 0, the ends of all kinds, what is beside them, and some others.
func edges() []int {
	l := []int{least, least + 1, most - 1, most, 1500, 999, 2621440, pow, lag, loss, jitter, 500000, 1500000, 1000 * one, second}
	for _, n := range []int{0, 3, 1000, one / 2, one, 1000000, 1000000000, 1 << 40, top / one * 1000, top / 2, top} {
		for beside := -1; beside <= 1; beside++ {
			l = append(l, n+beside, -n+beside)
		}
	}
	slices.Sort(l)
	return slices.Compact(l)
}

// random makes the same numbers at each run.
type random uint64

func (r *random) below(n int) int {
	*r = *r*6364136223846793005 + 1442695040888963407
	return int(uint64(*r)>>33) % n
}

// size is any int that is not below 0, small or great.
func (r *random) size() int {
	return (r.below(1<<31)<<32 | r.below(1<<31)<<1 | r.below(2)) >> r.below(63)
}

// any is any int, small or great, of both signs.
func (r *random) any() int {
	n := r.size()
	if r.below(2) == 0 {
		return ^n
	}
	return n
}

// usual is a config near the usual ones, and what an interval may tell.
func (r *random) usual() (api.Config, api.Stats) {
	c := by(r.below(one+1), r.below(2000*one), r.below(100*one), r.below(2000*one))
	s := api.Stats{Rate: r.below(1000000000), Grade: r.below(one) - one/2, Loss: r.below(one + 1), Dev: r.below(1000000000)}
	c.Cut = r.below(1000000000)
	return c, s
}

// strange is any config, and any stats, whether or not they may be.
func (r *random) strange() (api.Config, api.Stats) {
	c := by(r.any(), r.any(), r.any(), r.any())
	c.Cut = r.any()
	return c, api.Stats{Rate: r.any(), Grade: r.any(), Loss: r.any(), Dev: r.any()}
}

// either is one of both.
func (r *random) either() (api.Config, api.Stats) {
	if r.below(2) == 0 {
		return r.usual()
	}
	return r.strange()
}

func TestTheChaptersExamples(t *testing.T) { // P16.1
	c := config.Usual(api.ProteusS)
	s := api.Stats{Rate: 1000, Dev: 1000 * one}
	if a, b := Primary(c, s), Scavenger(c, s); a != 1048576 || b != -524924 {
		t.Errorf("%d, %d", a, b)
	}
}

// interval is a config's weights, what an interval tells, and what it is worth to a primary, and to a scavenger.
type interval struct {
	power, lag, loss, jitter int
	rate, grade, lost, dev   int
	primary, scavenger       int
}

func (x interval) given() (api.Config, api.Stats) {
	return by(x.power, x.lag, x.loss, x.jitter), api.Stats{Rate: x.rate, Grade: x.grade, Loss: x.lost, Dev: x.dev}
}

// check tells what is wrong with an interval: it is mixed by whether its rate is below a cut.
func (x interval) check(t *testing.T) {
	t.Helper()
	c, s := x.given()
	if n := Primary(c, s); n != x.primary {
		t.Errorf("%+v: primary %d", x, n)
	}
	if n := Scavenger(c, s); n != x.scavenger {
		t.Errorf("%+v: scavenger %d", x, n)
	}
	if c.Cut = x.rate; Mixed(c, s) != x.scavenger {
		t.Errorf("%+v: mixed at the cut %d", x, Mixed(c, s))
	}
	if c.Cut = least; Mixed(c, s) != x.scavenger {
		t.Errorf("%+v: mixed above the cut %d", x, Mixed(c, s))
	}
	if x.rate == most {
		return
	}
	if c.Cut = x.rate + 1; Mixed(c, s) != x.primary {
		t.Errorf("%+v: mixed below the cut %d", x, Mixed(c, s))
	}
	if c.Cut = most; Mixed(c, s) != x.primary {
		t.Errorf("%+v: mixed far below the cut %d", x, Mixed(c, s))
	}
}

func TestIntervals(t *testing.T) { // P16.1
	for _, x := range []interval{
		{pow, lag, loss, jitter, 0, 0, 0, 0, 0, 0},
		{pow, lag, loss, jitter, 0, one, one, second, 0, 0},
		{pow, lag, loss, jitter, 1000, 0, 0, 0, one, one},
		{pow, lag, loss, jitter, 1000, one, 0, 0, one - 900*one, one - 900*one},
		{pow, lag, loss, jitter, 1000, 1, 0, 0, one - 900, one - 900},
		{pow, lag, loss, jitter, 1000, -1, 0, 0, one, one}, // a queue that falls is worth nothing more
		{pow, lag, loss, jitter, 1000, -one, 0, 0, one, one},
		{pow, lag, loss, jitter, 1000, 0, one, 0, one - loss, one - loss},
		{pow, lag, loss, jitter, 1000, -one, one, 0, one - loss, one - loss},
		{pow, lag, loss, jitter, 1000, 0, 0, one, one, one - 1500}, // a microsecond is one part of a second, and some
		{pow, lag, loss, jitter, 1000, 0, 0, 10 * one, one, one - 10*1500},
		{pow, lag, loss, jitter, 1000, 0, 0, 100 * one, one, one - 105*1500},
		{pow, lag, loss, jitter, 1000, 0, 0, 1000 * one, one, one - 1049*1500},
		{pow, lag, loss, jitter, 1000, 0, 0, second, one, one - 1500*one},
		{pow, lag, loss, jitter, 1000, 0, 0, 500000, one, one - 1500}, // half a part
		{pow, lag, loss, jitter, 1000, 0, 0, 499999, one, one},
		{pow, lag, loss, jitter, 1000, 0, 0, 1499999, one, one - 1500},
		{pow, lag, loss, jitter, 1000, 0, 0, 1500000, one, one - 3000},
		{pow, lag, loss, jitter, 1000, 0, 0, -500000, one, one + 1500},
		{pow, lag, loss, jitter, 1000, 0, 0, -499999, one, one},
		{pow, lag, loss, jitter, 1000, 0, 0, -second, one, one + 1500*one},
		{pow, lag, loss, jitter, 1000, one, 0, second, one - 900*one, one - 900*one - 1500*one},
		{pow, lag, loss, jitter, 1000, -one, 0, second, one, one - 1500*one},
		{pow, lag, loss, jitter, 1000, one, one, second, one - 900*one - loss, one - 900*one - loss - 1500*one},
		{pow, lag, loss, jitter, 1000000, 0, 0, 0, 525531515, 525531515}, // 1000 units, to nine tenths of a power, are some 501
		{pow, lag, loss, jitter, 1000000, 0, 0, 1000 * one, 525531515, 525531515 - 1573500000},
		{pow, lag, loss, jitter, 1000000, 1049, 0, 1000 * one, 525531515 - 944100000, 525531515 - 944100000 - 1573500000},
		{pow, lag, loss, jitter, 1000000, -1049, 52429, 1000 * one, 525531515 - 596379875, 525531515 - 596379875 - 1573500000},
		{one, 3 * one, 5 * one, 7 * one, 2000, one / 4, one / 8, second / 2, 2*one - 3*one/2 - 5*one/4, 2*one - 3*one/2 - 5*one/4 - 7*one},
		{one, -3 * one, -5 * one, -7 * one, 2000, one / 4, one / 8, second / 2, 2*one + 3*one/2 + 5*one/4, 2*one + 3*one/2 + 5*one/4 + 7*one},
		{one, -3 * one, 0, 7 * one, 2000, -one / 4, 0, 0, 2 * one, 2 * one},                           // whatever the lag weighs
		{one, 3 * one, 5 * one, 7 * one, -2000, one / 4, 0, second / 2, 3 * one / 2, 3*one/2 + 7*one}, // what is below 0 has no power, but costs
		{one, 3 * one, 5 * one, 0, 2000, one / 4, 0, second, 2*one - 3*one/2, 2*one - 3*one/2},        // a jitter that weighs nothing
		{0, 0, 0, 900 * one, 3000, 0, 0, 500000, one, one - 2700},                                     // the seconds are rounded ahead of the units
		{0, 0, 0, 900 * one, 3000, 0, 0, 499999, one, one},
		{0, 0, 0, 900 * one, 1, 0, 0, 500000000, one, one - 900}, // half a part, and some: the jitter comes last
		{0, 0, 0, 900 * one, 1, 0, 0, 499000000, one, one},
		{0, 0, 0, 900 * one, 1, 0, 0, -500000000, one, one + 900},
		{0, 0, 0, one / 2, 1000, 0, 0, one, one, one - 1}, // half a part of jitter
		{0, 0, 0, one/2 - 1, 1000, 0, 0, one, one, one},
		{0, 0, 0, -one / 2, 1000, 0, 0, one, one, one + 1},
		{0, one / 2, one / 2, one / 2, 1000, 1, 1, one, one - 2, one - 3}, // costs are rounded one by one
		{one, one, one, one, 3, 3 * one, 0, 3 * second, 3145 - 9438, 3145 - 9438 - 9438},
	} {
		x.check(t)
	}
}

func TestIntervalsAtTheEnds(t *testing.T) { // P16.1
	for _, x := range []interval{
		{one, 0, 0, 0, most, 0, 0, 0, top, top}, // the units are held
		{one, 0, 0, one, most, 0, 0, second, top, 0},
		{one, 0, 0, -one, most, 0, 0, second, top, top},
		{one, 0, 0, one, most, 0, 0, -second, top, top},
		{0, 0, 0, one, least, 0, 0, second, 0, top},
		{0, 0, 0, -one, least, 0, 0, second, 0, -top},
		{0, one, 0, one, most, one, 0, second, one - top, -top},
		{0, one, 0, -one, most, one, 0, second, one - top, one}, // each step is held
		{0, one, one, -one, most, one, one, second, -top, 0},
		{0, 2 * one, 0, -one, most, one, 0, second, one - top, one},
		{0, -one, 0, one, most, one, 0, second, top, 0},
		{0, one, 0, one, most, most, 0, 0, one - top, one - top},
		{0, one, 0, one, most, least, 0, 0, one, one}, // a queue that falls as far as can be
		{0, -one, 0, one, most, least, 0, 0, one, one},
		{0, least, 0, one, least, least, 0, 0, 0, 0},
		{0, 0, 0, one / 2, 1000, 0, 0, most, one, one - 2305843009214}, // what is beyond the ends means them
		{0, 0, 0, one / 2, 1000, 0, 0, top + 1, one, one - 2305843009214},
		{0, 0, 0, one / 2, 1000, 0, 0, top, one, one - 2305843009214},
		{0, 0, 0, one / 2, 1000, 0, 0, least, one, one + 2305843009214},
		{0, 0, 0, one / 2, 1000, 0, 0, -top, one, one + 2305843009214},
		{0, 0, 0, most, 500, 0, 0, second, one, one - top/2},
		{0, 0, 0, top, 500, 0, 0, second, one, one - top/2},
		{0, 0, 0, least, 500, 0, 0, second, one, one + top/2},
		{0, 0, 0, one / 4, most, 0, 0, 2 * second, one, one - top/4}, // and so does the product of units and seconds
		{0, 0, 0, most, most, 0, 0, most, one, one - top},
		{0, 0, 0, least, most, 0, 0, most, one, top},
		{0, 0, 0, most, most, 0, 0, least, one, top},
		{0, 0, 0, most, least, 0, 0, most, 0, top},
		{0, 0, 0, least, least, 0, 0, least, 0, top},
		{0, 0, 0, most, most, 0, 0, 499999, one, one}, // of nothing
		{most, most, most, most, most, most, most, most, -top, -top},
		{least, least, least, least, least, least, least, least, top, top},
	} {
		x.check(t)
	}
}

func TestTheCut(t *testing.T) { // P16.1
	c := config.Usual(api.Hybrid)
	s := api.Stats{Dev: 1000 * one}
	for _, rate := range edges() {
		for _, cut := range edges() {
			s.Rate, c.Cut = rate, cut
			want := Scavenger(c, s)
			if rate < cut {
				want = Primary(c, s)
			}
			if n := Mixed(c, s); n != want {
				t.Errorf("%d, %d: %d, not %d", rate, cut, n, want)
			}
		}
	}
	c.Cut = 1000000
	for s.Rate = 999990; s.Rate < 1000010; s.Rate++ {
		yields := Mixed(c, s) < Primary(c, s)
		if yields != (s.Rate >= 1000000) {
			t.Errorf("%d: %v", s.Rate, yields)
		}
	}
}

// likeTheirWords tells what is wrong with any of the three.
func likeTheirWords(t *testing.T, c api.Config, s api.Stats) {
	t.Helper()
	if n, want := Primary(c, s), primaryOf(c, s); n != want {
		t.Fatalf("%+v, %+v: primary %d, not %d", c, s, n, want)
	}
	if n, want := Scavenger(c, s), scavengerOf(c, s); n != want {
		t.Fatalf("%+v, %+v: scavenger %d, not %d", c, s, n, want)
	}
	if n, want := Mixed(c, s), mixedOf(c, s); n != want {
		t.Fatalf("%+v, %+v: mixed %d, not %d", c, s, n, want)
	}
}

func TestTheyAreThoseOfTheirWords(t *testing.T) { // P16.1
	all := edges()
	pick := func(n int) int { return all[n%len(all)] }
	for i, rate := range all {
		for j, dev := range all {
			for k := range 3 {
				c := by(pick(i*5+j+k*3), pick(i+j*3+k*7), pick(i*3+j*5+k*11), pick(i*7+j*2+k*5))
				c.Cut = pick(i + j*7 + k*13)
				likeTheirWords(t, c, api.Stats{Rate: rate, Dev: dev, Grade: pick(i*11 + j + k*17), Loss: pick(i*7 + j*11 + k*13)})
			}
		}
	}
	r := random(1)
	within := 0
	for range 20000 {
		c, s := r.either()
		likeTheirWords(t, c, s)
		if n := Scavenger(c, s); n != top && n != -top && n != Primary(c, s) {
			within++
		}
	}
	if within < 8000 {
		t.Errorf("%d within the ends", within)
	}
}

// By floats, too, which know nothing of layers: within a thousandth of what is gained, and of what each cost comes to.
func TestTheyAreNearWhatFloatsTell(t *testing.T) { // P16.1
	r := random(2)
	for range 5000 {
		c, s := r.usual()
		s.Rate, s.Dev = s.Rate+1000, s.Dev*1000 // up to some 950 seconds: a part of a second is not near enough otherwise
		x := float64(s.Rate) / 1000
		gain := math.Pow(x, float64(c.Power)/one)
		rise := float64(c.Lag) / one * x * float64(max(s.Grade, 0)) / one
		lost := float64(c.Loss) / one * x * float64(s.Loss) / one
		spread := float64(c.Jitter) / one * x * float64(s.Dev) / second
		near := (gain+rise+lost)/1000 + 0.01
		if n := float64(Primary(c, s)) / one; math.Abs(n-(gain-rise-lost)) > near {
			t.Fatalf("%+v, %+v: primary %f, not %f", c, s, n, gain-rise-lost)
		}
		// Half a part of a second, of each unit.
		near += spread/1000 + float64(c.Jitter)/one*x/one
		if n := float64(Scavenger(c, s)) / one; math.Abs(n-(gain-rise-lost-spread)) > near {
			t.Fatalf("%+v, %+v: scavenger %f, not %f", c, s, n, gain-rise-lost-spread)
		}
	}
}

// other is a config of which each field that no worth of this layer hangs on is any.
func (r *random) other(c api.Config) api.Config {
	return api.Config{Mode: r.any(), MinRate: r.any(), MaxRate: r.any(), StartRate: r.any(), Packet: r.any(), Burst: r.any(), Ring: r.any(), MiMin: r.any(), MiMax: r.any(), Timeout: r.any(), Eps: r.any(), Steps: r.any(), Omega: r.any(), Widen: r.any(), Gain: r.any(), Knee: r.any(), Slope: r.any(), Power: c.Power, Lag: c.Lag, Loss: c.Loss, Jitter: c.Jitter, Cut: c.Cut}
}

// How long the way is, how much came through, and of how many samples, count for nothing; to a primary, how the way is spread, too.
func TestNothingElseCounts(t *testing.T) { // P16.1
	r := random(3)
	for range 3000 {
		c, s := r.usual()
		primary, scavenger, mixed := Primary(c, s), Scavenger(c, s), Mixed(c, s)
		c = r.other(c)
		s.Good, s.Mean, s.N = r.any(), r.any(), r.any()
		if n := Mixed(c, s); n != mixed {
			t.Fatalf("%+v, %+v: mixed %d, not %d", c, s, n, mixed)
		}
		c.Cut = r.any()
		if n := Scavenger(c, s); n != scavenger {
			t.Fatalf("%+v, %+v: scavenger %d, not %d", c, s, n, scavenger)
		}
		c.Jitter, s.Dev = r.any(), r.any()
		if n := Primary(c, s); n != primary {
			t.Fatalf("%+v, %+v: primary %d, not %d", c, s, n, primary)
		}
	}
}

func TestOf(t *testing.T) { // P16.2
	c := config.Usual(api.Allegro)
	still := api.Stats{Rate: 1000, Good: 1000}
	falls := api.Stats{Rate: 1000, Good: 500, Grade: -one, Dev: 1000 * one}
	grows := api.Stats{Rate: 1000000, Good: 1000000, Grade: 1049, Dev: 1000 * one}
	poor := api.Stats{Rate: 1000, Good: 0, Loss: one, Dev: second}
	const yields = 525531515 - 944100000 - 1573500000
	for i, x := range []struct {
		s    api.Stats
		want [5]int // of the modes from Allegro on
	}{
		{api.Stats{}, [5]int{}},
		{still, [5]int{1041558, one, one, one, one}},
		{falls, [5]int{1041558 / 2, one + 900*one, one, one - 1573500, one}},
		{grows, [5]int{1041558 * 1000, 525531515 - 944100000, 525531515 - 944100000, yields, yields}}, // the usual cut
		{poor, [5]int{-one, one - loss, one - loss, one - loss - 1500*one, one - loss}},
	} {
		for at, want := range x.want {
			if n, wrong := Of(c, at+1, x.s); n != want || wrong != api.OK {
				t.Errorf("%d: mode %d: %d, %d", i, at+1, n, wrong)
			}
		}
	}
}

// Which mode is asked counts, and the config's own one does not.
func TestOfIsThatOfItsMode(t *testing.T) { // P16.2
	r := random(4)
	for range 5000 {
		c, s := r.either()
		s.Good, s.Mean, s.N = r.any(), r.any(), r.any()
		c.Slope, c.Knee = r.below(200*one), r.below(one)
		for _, x := range []struct{ mode, want int }{
			{api.Allegro, allegro.Worth(c, s)},
			{api.Vivace, vivace.Worth(c, s)},
			{api.ProteusP, primaryOf(c, s)},
			{api.ProteusS, scavengerOf(c, s)},
			{api.Hybrid, mixedOf(c, s)},
		} {
			c.Mode = r.below(7)
			if n, wrong := Of(c, x.mode, s); n != x.want || wrong != api.OK {
				t.Fatalf("%+v, %d, %+v: %d, %d, not %d", c, x.mode, s, n, wrong, x.want)
			}
		}
	}
}

func TestNoMode(t *testing.T) { // P16.2
	c := config.Usual(api.Vivace)
	s := api.Stats{Rate: 1000000, Good: 1000000}
	wrong := append(edges(), 6, 7, -5, 1<<8+1, 1<<16+2, 1<<32+3, -1<<32+4, 1<<62+5)
	for _, mode := range wrong {
		if mode >= 1 && mode <= 5 {
			continue
		}
		if n, e := Of(c, mode, s); n != 0 || e != api.ErrMode {
			t.Errorf("%d: %d, %d", mode, n, e)
		}
	}
	for mode := -300; mode <= 300; mode++ {
		if _, e := Of(api.Config{}, mode, api.Stats{}); (e == api.OK) != slices.Contains(Modes(), mode) {
			t.Errorf("%d: %d", mode, e)
		}
	}
}

func TestModes(t *testing.T) { // P16.2
	// Often, as a map is gone through in any order.
	for i := range 200 {
		l := Modes()
		if !slices.Equal(l, []int{api.Allegro, api.Vivace, api.ProteusP, api.ProteusS, api.Hybrid}) || !slices.Equal(l, []int{1, 2, 3, 4, 5}) {
			t.Fatalf("%d: %v", i, l)
		}
		for at := range l {
			l[at] = -1 // which is not told the next time
		}
	}
}

func TestAScavengerIsNotWorthMore(t *testing.T) { // P16.3
	r := random(5)
	lower := 0
	for range 15000 {
		c, s := r.either()
		c.Jitter, s.Rate, s.Dev = max(c.Jitter, ^c.Jitter), max(s.Rate, ^s.Rate), max(s.Dev, ^s.Dev)
		primary, scavenger := Primary(c, s), Scavenger(c, s)
		if scavenger > primary {
			t.Fatalf("%+v, %+v: %d, above %d", c, s, scavenger, primary)
		}
		if scavenger < primary {
			lower++
		}
		wider := s
		wider.Dev = max(s.Dev, r.size())
		if n := Scavenger(c, wider); n > scavenger {
			t.Fatalf("%+v, %+v: %d; with a spread of %d it is %d", c, s, scavenger, wider.Dev, n)
		}
		s.Dev = 0
		if n := Scavenger(c, s); n != primary {
			t.Fatalf("%+v, %+v: %d, not %d", c, s, n, primary)
		}
	}
	if lower < 6000 {
		t.Errorf("%d lower", lower)
	}
}

// Where nothing is spread it is worth as much, whatever all else is.
func TestWhereNothingIsSpread(t *testing.T) { // P16.3
	r := random(6)
	for range 5000 {
		c, s := r.strange()
		s.Dev = 0
		if a, b, m := Primary(c, s), Scavenger(c, s), Mixed(c, s); a != b || a != m {
			t.Fatalf("%+v, %+v: %d, %d, %d", c, s, a, b, m)
		}
	}
}

func TestMixedIsOneOfBoth(t *testing.T) { // P16.3
	r := random(7)
	var times [2]int
	for range 10000 {
		c, s := r.either()
		switch primary, scavenger := Primary(c, s), Scavenger(c, s); Mixed(c, s) {
		case primary:
			times[0]++
		case scavenger:
			times[1]++
		default:
			t.Fatalf("%+v, %+v: %d is neither %d nor %d", c, s, Mixed(c, s), primary, scavenger)
		}
	}
	if times[0] < 3000 || times[1] < 3000 {
		t.Errorf("%v", times)
	}
}

func TestAQueueThatFalls(t *testing.T) { // P16.3
	r := random(8)
	for range 10000 {
		c, s := r.either()
		stays, falls := s, s
		stays.Grade, falls.Grade = 0, ^max(s.Grade, ^s.Grade)
		if a, b := Primary(c, falls), Primary(c, stays); a != b {
			t.Fatalf("%+v, %+v: %d, where it stays %d", c, falls, a, b)
		}
		if a, b := Scavenger(c, falls), Scavenger(c, stays); a != b {
			t.Fatalf("%+v, %+v: a scavenger %d, where it stays %d", c, falls, a, b)
		}
	}
	c := config.Usual(api.ProteusP)
	s := api.Stats{Rate: 1000000}
	stays := Primary(c, s)
	for s.Grade = -2000; s.Grade <= 2000; s.Grade++ {
		if n := Primary(c, s); s.Grade > 0 && n >= stays || s.Grade <= 0 && n != stays {
			t.Fatalf("%d: %d, where it stays %d", s.Grade, n, stays)
		}
	}
}
