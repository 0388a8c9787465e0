package vivace

import (
	"math"
	"math/big"
	"slices"
	"testing"

	"pacemaker/api"
	"pacemaker/config"
	"pacemaker/power"
)

const (
	one   = 1048576
	top   = 4611686018427387904
	most  = math.MaxInt
	least = math.MinInt
	pow   = 943718    // the usual power
	lag   = 943718400 // the usual lag, 900
	loss  = 11927552  // the usual loss, 11 and 3 eighths
)

func bigOf(n int) *big.Int { return big.NewInt(int64(n)) }

// held is the fixed number that n means.
func held(n *big.Int) int {
	switch {
	case n.Cmp(bigOf(top)) > 0:
		return top
	case n.Cmp(bigOf(-top)) < 0:
		return -top
	}
	return int(n.Int64())
}

func fixed(n int) int { return held(bigOf(n)) }

// scaled is a times n, by d, which is above 0, as layer 2 tells it.
func scaled(a, n, d int) int {
	all := new(big.Int).Mul(bigOf(fixed(a)), bigOf(n))
	size := new(big.Int).Abs(all)
	size.Add(size.Lsh(size, 1), bigOf(d))
	size.Quo(size, bigOf(2*d))
	return held(size.Mul(size, bigOf(all.Sign())))
}

// product is layer 2's.
func product(a, b int) int { return scaled(a, fixed(b), one) }

// less is layer 2's.
func less(a, b int) int { return held(new(big.Int).Sub(bigOf(fixed(a)), bigOf(fixed(b)))) }

// units are layer 13's.
func units(rate int) int { return scaled(rate, one, 1000) }

// baseOf is P15.1 word for word.
func baseOf(c api.Config, s api.Stats, grade int) int {
	x := units(s.Rate)
	left := less(power.Pow(x, c.Power), product(c.Lag, product(x, grade)))
	return less(left, product(c.Loss, product(x, s.Loss)))
}

// flowOf is P15.2 word for word.
func flowOf(rate, room int) api.Stats {
	var s api.Stats
	if rate > 0 {
		s.Rate = rate
	}
	if room > 0 {
		s.Good = min(s.Rate, room)
	}
	waits := new(big.Int).Sub(bigOf(s.Rate), bigOf(s.Good))
	switch {
	case waits.Sign() == 0:
		return s
	case s.Good == 0:
		s.Grade = top
		return s
	}
	// To the nearest; of two that are as near the greater one.
	waits.Add(waits.Lsh(waits, 21), bigOf(s.Good))
	s.Grade = held(waits.Quo(waits, new(big.Int).Lsh(bigOf(s.Good), 1)))
	return s
}

// by is a usual config, but with these.
func by(power, lag, loss int) api.Config {
	c := config.Usual(api.Vivace)
	c.Power, c.Lag, c.Loss = power, lag, loss
	return c
}

// edges are 0, the ends of all kinds, what is beside them, and some others.
func edges() []int {
	l := []int{least, least + 1, most - 1, most, 1500, 999, 2621440, pow, lag, loss}
	for _, n := range []int{0, 3, 1000, one / 2, one, 2 * one, 1000000, 1000000000, 1 << 40, top / one * 1000, top / 2, top} {
		for beside := -1; beside <= 1; beside++ {
			l = append(l, n+beside, -n+beside)
		}
	}
	slices.Sort(l)
	return slices.Compact(l)
}

// random makes the same numbers at each run.
type random uint64

func (r *random) below(n int) int {
	*r = *r*6364136223846793005 + 1442695040888963407
	return int(uint64(*r)>>33) % n
}

// size is any int that is not below 0, small or great.
func (r *random) size() int {
	return (r.below(1<<31)<<32 | r.below(1<<31)<<1 | r.below(2)) >> r.below(63)
}

// any is any int, small or great, of both signs.
func (r *random) any() int {
	n := r.size()
	if r.below(2) == 0 {
		return ^n
	}
	return n
}

func TestTheChaptersExamples(t *testing.T) { // P15.2
	if s := Flow(3, 2); s != (api.Stats{Rate: 3, Good: 2, Grade: one / 2}) {
		t.Errorf("%+v", s)
	}
	if n := Model(config.Usual(api.Vivace), 1000, 5000); n != 1048576 {
		t.Errorf("%d", n)
	}
}

// worths are hand-made: what an interval of so many bytes a second is worth, by so much of a power, a lag and a loss.
func worths() [][7]int { // power, lag, loss, rate, grade, lost, worth
	return [][7]int{
		{pow, lag, loss, 0, 0, 0, 0},
		{pow, lag, loss, 1000, 0, 0, one}, // 1 to any power is 1
		{pow, lag, loss, 1000, one, 0, one - 900*one},
		{pow, lag, loss, 1000, -one, 0, one + 900*one}, // a queue that falls is worth something
		{pow, lag, loss, 1000, 0, one, one - loss},
		{pow, lag, loss, 1000, one, one, one - 900*one - loss},
		{pow, lag, loss, 1000, -one, one, one + 900*one - loss},
		{pow, lag, loss, 1000000, 0, 0, 525531515}, // 1000 units, to nine tenths of a power, are some 501
		{pow, lag, loss, 1000000, 1049, 0, 525531515 - 944100000},
		{pow, lag, loss, 1000000, -1049, 0, 525531515 + 944100000},
		{pow, lag, loss, 1000000, 0, 52429, 525531515 - 596379875},
		{pow, lag, loss, 1000000, 1049, 52429, 525531515 - 944100000 - 596379875},
		{one, lag, loss, 2000, 0, 0, 2 * one},
		{2 * one, lag, loss, 2000, 0, 0, 4 * one},
		{one / 2, lag, loss, 4000, 0, 0, 2 * one},
		{0, lag, loss, 4000, 0, 0, one},
		{-one, lag, loss, 4000, 0, 0, one / 4},
		{one, 3 * one, 5 * one, 2000, one / 4, 0, 2*one - 3*one/2},
		{one, 3 * one, 5 * one, 2000, 0, one / 4, 2*one - 5*one/2},
		{one, 3 * one, 5 * one, 2000, one / 4, one / 8, 2*one - 3*one/2 - 5*one/4},
		{one, -3 * one, -5 * one, 2000, one / 4, one / 8, 2*one + 3*one/2 + 5*one/4},
		{one, 3 * one, 5 * one, -2000, one / 4, one / 8, 3*one/2 + 5*one/4}, // what is below 0 has no power, but costs
		{0, 3 * one, 5 * one, -2000, 0, 0, 0},
		{one, 0, 5 * one, 2000, one, one / 4, 2*one - 5*one/2}, // what weighs nothing
		{one, 3 * one, 0, 2000, one / 4, one, 2*one - 3*one/2},
		{0, 900 * one, 0, 1, 500, 0, one - 900}, // half a part, and some, of each unit: the weight comes last
		{0, 900 * one, 0, 1, 499, 0, one},
		{0, 900 * one, 0, 1, -500, 0, one + 900},
		{0, 900 * one, 0, 1, -499, 0, one},
		{0, 0, 900 * one, 1, 0, 500, one - 900},
		{0, 0, 900 * one, 1, 0, 499, one},
		{0, 0, 900 * one, 1, 0, -500, one + 900},
		{0, one / 2, 0, 1000, 1, 0, one - 1}, // half a part
		{0, one/2 - 1, 0, 1000, 1, 0, one},
		{0, one / 2, 0, 1000, -1, 0, one + 1},
		{0, 0, one / 2, 1000, 0, 1, one - 1},
		{0, one / 2, one / 2, 1000, 1, 1, one - 2}, // costs are rounded one by one
		{one, one, one, 3, 3 * one, 0, 3145 - 9438},
	}
}

func TestWorth(t *testing.T) { // P15.1
	for i, x := range worths() {
		c := by(x[0], x[1], x[2])
		s := api.Stats{Rate: x[3], Grade: x[4], Loss: x[5]}
		if n := Worth(c, s); n != x[6] {
			t.Errorf("%d: %v: %d", i, x, n)
		}
		s.Grade = 7 * one
		if n := Base(c, s, x[4]); n != x[6] {
			t.Errorf("%d: %v: as a base %d", i, x, n)
		}
	}
}

func TestWorthAtTheEnds(t *testing.T) { // P15.1
	for i, x := range [][7]int{
		{one, 0, 0, most, 0, 0, top}, // the units are held
		{one, 0, 0, top, 0, 0, top},
		{one, 0, 0, least, 0, 0, 0},
		{0, 0, 0, most, 0, 0, one},
		{most, 0, 0, 2000, 0, 0, top},
		{least, 0, 0, 2000, 0, 0, 0},
		{0, one, 0, most, one, 0, one - top},
		{0, one, 0, least, one, 0, top},
		{0, 0, one, most, 0, one, one - top},
		{0, 0, one, least, 0, one, top},
		{one, one, 0, most, one, 0, 0}, // top less top
		{one, -one, one, most, one, one, 0},
		{one, one, one, most, one, one, -top}, // the whole is held at each step: first what rises is taken off, then what is lost
		{0, one, -one, most, one, one, one},
		{0, 2 * one, one, most, one, one, -top},
		{0, -one, one, most, one, one, 0},
		{0, -2 * one, one, most, one, one, 0},
		{0, one, one, least, one, -one, 0},
		{0, one, -one / 2, most, one, one, one - top + top/2},
		{one, one / 2, one / 2, most, one, one, 0},
		{0, one / 2, one, most, one, one, -top},
		{0, one / 2, 0, 1000, most, 0, one - top/2}, // what is beyond the ends means them
		{0, one / 2, 0, 1000, least, 0, top/2 + one},
		{0, one / 2, 0, 1000, top + 1, 0, one - top/2},
		{0, 0, one / 2, 1000, 0, most, one - top/2},
		{0, 0, one / 2, 1000, 0, least, top/2 + one},
		{0, most, 0, 1000, one / 2, 0, one - top/2},
		{0, least, 0, 1000, one / 2, 0, top/2 + one},
		{0, 0, most, 1000, 0, one / 2, one - top/2},
		{0, 0, least, 1000, 0, one / 2, top/2 + one},
		{0, one / 4, 0, most, 2 * one, 0, one - top/4}, // and so does the product of units
		{0, 0, one / 4, most, 0, 2 * one, one - top/4},
		{0, most, least, most, most, most, one},
		{0, least, most, most, most, most, 0},
		{0, least, least, least, most, most, -top},
		{most, most, most, most, most, most, -top},
		{least, least, least, least, least, least, top},
	} {
		c := by(x[0], x[1], x[2])
		s := api.Stats{Rate: x[3], Grade: x[4], Loss: x[5]}
		if n := Worth(c, s); n != x[6] || Base(c, s, x[4]) != n {
			t.Errorf("%d: %v: %d", i, x, n)
		}
	}
}

func TestWorthIsThatOfItsWords(t *testing.T) { // P15.1
	all := edges()
	pick := func(n int) int { return all[n%len(all)] }
	for i, rate := range all {
		for j, grade := range all {
			for k := range 4 {
				c := by(pick(i*5+j+k*3), pick(i+j*3+k*7), pick(i*3+j*5+k*11))
				s := api.Stats{Rate: rate, Grade: grade, Loss: pick(i*7 + j*11 + k*13)}
				other := pick(i + j + k*17)
				if n, want := Worth(c, s), baseOf(c, s, grade); n != want {
					t.Fatalf("%d, %d, %d, %+v: %d, not %d", c.Power, c.Lag, c.Loss, s, n, want)
				}
				if n, want := Base(c, s, other), baseOf(c, s, other); n != want {
					t.Fatalf("%d, %d, %d, %+v, %d: %d, not %d", c.Power, c.Lag, c.Loss, s, other, n, want)
				}
			}
		}
	}
	r := random(1)
	within := 0
	for range 20000 {
		c := by(r.any(), r.any(), r.any())
		s := api.Stats{Rate: r.any(), Grade: r.any(), Loss: r.any()}
		if r.below(2) == 0 { // what is usual, or near it
			c = by(r.below(2*one), r.below(2000*one), r.below(100*one))
			s = api.Stats{Rate: r.below(1000000000), Grade: r.below(2*one) - one, Loss: r.below(one + 1)}
		}
		n, want := Worth(c, s), baseOf(c, s, s.Grade)
		if n != want {
			t.Fatalf("%d, %d, %d, %+v: %d, not %d", c.Power, c.Lag, c.Loss, s, n, want)
		}
		if n != top && n != -top && n != power.Pow(units(s.Rate), c.Power) {
			within++
		}
	}
	if within < 8000 {
		t.Errorf("%d within the ends", within)
	}
}

// By floats, too, which know nothing of layers: within a thousandth of what is gained, and of what each cost comes to.
func TestWorthIsNearWhatFloatsTell(t *testing.T) { // P15.1
	r := random(2)
	for range 5000 {
		c := by(r.below(one+1), r.below(2000*one), r.below(100*one))
		s := api.Stats{Rate: 1000 + r.below(1000000000), Grade: r.below(2*one) - one, Loss: r.below(one + 1)}
		x := float64(s.Rate) / 1000
		gain := math.Pow(x, float64(c.Power)/one)
		rise := float64(c.Lag) / one * x * float64(s.Grade) / one
		lost := float64(c.Loss) / one * x * float64(s.Loss) / one
		n := float64(Worth(c, s)) / one
		if math.Abs(n-(gain-rise-lost)) > (gain+math.Abs(rise)+lost)/1000+0.01 {
			t.Fatalf("%d, %d, %d, %+v: %f, not %f", c.Power, c.Lag, c.Loss, s, n, gain-rise-lost)
		}
	}
}

// How long the way is, how that is spread, how much came through, and of how many samples, count for nothing, and so does all else of a config.
func TestNothingElseCounts(t *testing.T) { // P15.1
	r := random(3)
	for range 3000 {
		c := by(r.below(2*one), r.below(2000*one), r.below(100*one))
		s := api.Stats{Rate: r.below(1000000000), Loss: r.below(one + 1), Grade: r.below(2*one) - one}
		want, grade := Worth(c, s), r.below(2*one)-one
		base := Base(c, s, grade)
		s.Good, s.Mean, s.Dev, s.N = r.any(), r.any(), r.any(), r.any()
		if n := Worth(c, s); n != want {
			t.Fatalf("%+v: %d, not %d", s, n, want)
		}
		other := api.Config{Mode: r.any(), MinRate: r.any(), MaxRate: r.any(), StartRate: r.any(), Packet: r.any(), Burst: r.any(), Ring: r.any(), MiMin: r.any(), MiMax: r.any(), Timeout: r.any(), Eps: r.any(), Steps: r.any(), Omega: r.any(), Widen: r.any(), Gain: r.any(), Knee: r.any(), Slope: r.any(), Power: c.Power, Lag: c.Lag, Loss: c.Loss, Jitter: r.any(), Cut: r.any()}
		if n := Worth(other, s); n != want {
			t.Fatalf("%+v, %+v: %d, not %d", other, s, n, want)
		}
		s.Grade = r.any()
		if n := Base(other, s, grade); n != base {
			t.Fatalf("%+v, %+v, %d: %d, not %d", other, s, grade, n, base)
		}
		rate, room := r.below(1000000000), r.below(1000000000)
		if n, want := Model(other, rate, room), Model(c, rate, room); n != want {
			t.Fatalf("%+v, %d, %d: %d, not %d", other, rate, room, n, want)
		}
	}
}

func TestFlow(t *testing.T) { // P15.2
	for i, x := range []struct{ rate, room, good, grade int }{
		{0, 0, 0, 0},
		{0, most, 0, 0},
		{1, 1, 1, 0},
		{1, 2, 1, 0},
		{1, most, 1, 0},
		{1, 0, 0, top}, // what is never emptied grows without end
		{1, -1, 0, top},
		{1, least, 0, top},
		{2, 1, 1, one},
		{3, 1, 1, 2 * one}, // a grade may be above 1
		{4, 3, 3, 349525},  // and a third
		{5, 3, 3, 699051},  // 699050 and two thirds
		{1000000, 2000000, 1000000, 0},
		{2000000, 2000000, 2000000, 0},
		{2000001, 2000000, 2000000, 1}, // 52 hundredths of a part
		{2000000, 1999999, 1999999, 1},
		{4000000, 1000000, 1000000, 3 * one},
		{2*one + 1, 2 * one, 2 * one, 1}, // half a part
		{2*one + 2, 2*one + 1, 2*one + 1, 0},
		{2*one + 3, 2 * one, 2 * one, 2}, // 1 part and a half
		{2*one + 4, 2*one + 1, 2*one + 1, 1},
		{1 << 42, 1, 1, top - one},
		{1<<42 + 1, 1, 1, top},
		{1<<42 + 2, 1, 1, top}, // and is held at the end
		{most, 2, 2, top},
		{most, 1 << 21, 1 << 21, top - one}, // half a part below
		{most, 1<<21 + 1<<10, 1<<21 + 1<<10, 4609435317587672960},
		{most, most, most, 0},
		{most, most - 1, most - 1, 0},
		{most, most - 1<<42 + 1<<21 - 1, most - 1<<42 + 1<<21 - 1, 1}, // half a part, and next to nothing
		{most, most - 1<<42 + 1<<21, most - 1<<42 + 1<<21, 0},
		{most, top, top, one},
		{most, top - 1, top - 1, one},
		{most, 0, 0, top},
		{most, least, 0, top},
		{3 * (top / 2), top, top, one / 2},
		{3 * (top / 2), top / 2, top / 2, 2 * one},
		{top, top / 4, top / 4, 3 * one},
		{top + 1, top, top, 0},
	} {
		if s := Flow(x.rate, x.room); s != (api.Stats{Rate: x.rate, Good: x.good, Grade: x.grade}) {
			t.Errorf("%d: %+v", i, s)
		}
	}
}

func TestNothingFlowsBelow0(t *testing.T) { // P15.2
	c := config.Usual(api.Vivace)
	for _, rate := range []int{0, -1, -2, -1000, -top, -top - 1, least + 1, least} {
		for _, room := range edges() {
			if s := Flow(rate, room); s != (api.Stats{}) {
				t.Errorf("%d, %d: %+v", rate, room, s)
			}
			if n := Model(c, rate, room); n != 0 {
				t.Errorf("%d, %d: %d", rate, room, n)
			}
		}
	}
}

func TestModel(t *testing.T) { // P15.2
	c := config.Usual(api.Vivace)
	for i, x := range []struct{ rate, room, worth int }{
		{0, 0, 0},
		{1000, 1000, one},
		{1000000, 1000000, 525531515},
		{1000000, most, 525531515},                    // more room than is asked for is worth nothing
		{1000, 500, one - 900*one},                    // for each byte that goes through one waits
		{1000, 250, one - 2700*one},                   // or three
		{2000, 1999, 1956711 - 1050*900},              // 525 parts of each of two units
		{1000, 0, one - top},                          // a queue that is never emptied
		{most, 1000000000, power.Pow(top, pow) - top}, // and one that nearly is not
	} {
		if n := Model(c, x.rate, x.room); n != x.worth {
			t.Errorf("%d: %d, not %d", i, n, x.worth)
		}
	}
}

// flows tells what is wrong with a rate and a room.
func flows(t *testing.T, c api.Config, rate, room int) {
	t.Helper()
	want := flowOf(rate, room)
	if s := Flow(rate, room); s != want {
		t.Fatalf("%d, %d: %+v, not %+v", rate, room, s, want)
	}
	if n, want := Model(c, rate, room), baseOf(c, want, want.Grade); n != want {
		t.Fatalf("%d, %d, %d, %d, %d: %d, not %d", c.Power, c.Lag, c.Loss, rate, room, n, want)
	}
}

func TestFlowAndModelAreThoseOfTheirWords(t *testing.T) { // P15.2
	all := edges()
	pick := func(n int) int { return all[n%len(all)] }
	for i, rate := range all {
		for j, room := range all {
			flows(t, config.Usual(api.Vivace), rate, room)
			flows(t, by(pick(i+j*3), pick(i*5+j), pick(i*3+j*7)), rate, room)
		}
	}
	r := random(4)
	beyond := 0
	for range 20000 {
		rate := r.any()
		room := r.any()
		if r.below(2) == 0 {
			room = rate - r.below(1000)*(rate/1000)
		}
		flows(t, by(r.below(2*one), r.below(2000*one), r.any()), rate, room)
		if rate > room && room > 0 {
			beyond++
		}
	}
	if beyond < 4000 {
		t.Errorf("%d beyond the room", beyond)
	}
}

// powers are those that are not below 0.
func powers() []int {
	return []int{0, 1, one / 7, one / 2, pow, one - 1, one, one + 1, 3 * one, 50 * one, 1 << 40, top, most}
}

func rooms() []int {
	return []int{0, 1, 2, 7, 999, 1000, 1000000, 1000003, 1000000000, 1 << 40, top / one * 1000, top - 1, top, top + 1, 3 * (top / 2), most - 1, most, -1, least}
}

// rates are those up to a room, near and far from it, in their order.
func rates(room int) []int {
	l := []int{-1, least, least + 1, 0, 1, 2, 3, 10, 999, 1000, 1001, 1000000, top / one * 1000, top - 1, top, top + 1, most}
	for part := 1; part <= 60; part++ {
		l = append(l, room/60*part, room-part, room/100*part, 1<<part)
	}
	l = slices.DeleteFunc(append(l, room), func(rate int) bool { return rate > room })
	slices.Sort(l)
	return slices.Compact(l)
}

// Whatever a lag and a loss weigh, as up to the room neither is there.
func TestTheModelDoesNotFallUpToTheRoom(t *testing.T) { // P15.3
	all := edges()
	rises := 0
	for i, power := range powers() {
		for j, room := range rooms() {
			c := by(power, all[(i*7+j*3)%len(all)], all[(i*5+j*11)%len(all)])
			before := Model(c, least, room)
			for _, rate := range rates(room) {
				n := Model(c, rate, room)
				if n < before {
					t.Fatalf("%d, %d, %d, %d, %d: %d, not %d or more", c.Power, c.Lag, c.Loss, rate, room, n, before)
				}
				if n > before {
					rises++
				}
				before = n
			}
		}
	}
	if rises < 5000 {
		t.Errorf("%d rise", rises)
	}
}

// By a usual config, it does rise up to the room, and falls beyond it.
func TestTheModelRisesAndFalls(t *testing.T) { // P15.3
	c := config.Usual(api.Vivace)
	for _, room := range []int{10000, 200000, 1000000, 125000000} {
		before := -1
		for part := range 101 {
			n := Model(c, room/100*part, room)
			if n <= before {
				t.Fatalf("%d, %d: %d, not above %d", part, room, n, before)
			}
			before = n
		}
		for part := 101; part <= 500; part++ {
			n := Model(c, room/100*part, room)
			if n >= before {
				t.Fatalf("%d, %d: %d, not below %d", part, room, n, before)
			}
			before = n
		}
		if before >= 0 {
			t.Errorf("%d: %d", room, before)
		}
	}
}

func TestWhatRisesOrLosesMoreIsNotWorthMore(t *testing.T) { // P15.3
	r := random(5)
	falls := 0
	for range 15000 {
		c := by(r.any(), r.size(), r.size())
		s := api.Stats{Rate: r.size(), Grade: r.any(), Loss: r.any()}
		rises, loses := r.any(), r.any()
		if r.below(2) == 0 {
			c = by(r.below(2*one), r.below(2000*one), r.below(100*one))
			s = api.Stats{Rate: r.below(1000000000), Grade: r.below(2*one) - one, Loss: r.below(one + 1)}
			rises, loses = s.Grade+r.below(100), s.Loss+r.below(100)
		}
		s.Grade, rises = min(s.Grade, rises), max(s.Grade, rises)
		s.Loss, loses = min(s.Loss, loses), max(s.Loss, loses)
		steeper, poorer, both := s, s, s
		steeper.Grade, both.Grade = rises, rises
		poorer.Loss, both.Loss = loses, loses
		n, up, lost, worst := Worth(c, s), Worth(c, steeper), Worth(c, poorer), Worth(c, both)
		if up > n || lost > n || worst > up || worst > lost || Base(c, s, rises) != up {
			t.Fatalf("%d, %d, %d, %+v: %d; with a grade of %d it is %d; with a loss of %d it is %d; with both %d", c.Power, c.Lag, c.Loss, s, n, rises, up, loses, lost, worst)
		}
		if up < n && lost < n {
			falls++
		}
	}
	if falls < 5000 {
		t.Errorf("%d fall", falls)
	}
}

// One part after the other: each of them, of a grade or of a loss, is worth less by a usual config.
func TestEachPart(t *testing.T) { // P15.3
	c := config.Usual(api.Vivace)
	s := api.Stats{Rate: 1000000}
	before := top
	for s.Grade = -3000; s.Grade <= 3000; s.Grade++ {
		n := Worth(c, s)
		if n >= before {
			t.Fatalf("%+v: %d, not below %d", s, n, before)
		}
		before = n
	}
	before = top
	for s.Loss = 0; s.Loss <= 6000; s.Loss++ {
		n := Worth(c, s)
		if n >= before {
			t.Fatalf("%+v: %d, not below %d", s, n, before)
		}
		before = n
	}
}

func TestThePowerOfUnitsAlone(t *testing.T) { // P15.3
	all := edges()
	pick := func(n int) int { return all[n%len(all)] }
	for i, rate := range all {
		for j, exponent := range all {
			c := by(exponent, pick(i*3+j), pick(i+j*5))
			s := api.Stats{Rate: rate}
			want := power.Pow(units(rate), exponent)
			if n := Worth(c, s); n != want {
				t.Fatalf("%d, %d, %d, %d: %d, not %d", exponent, c.Lag, c.Loss, rate, n, want)
			}
			s.Grade = pick(i + j)
			if n := Base(c, s, 0); n != want {
				t.Fatalf("%d, %d, %d, %+v: %d, not %d", exponent, c.Lag, c.Loss, s, n, want)
			}
			if n := Model(c, rate, max(rate, pick(i*7+j))); n != want {
				t.Fatalf("%d, %d, %d, %d: the model is %d, not %d", exponent, c.Lag, c.Loss, rate, n, want)
			}
		}
	}
}
