package allegro

import (
	"math"
	"math/big"
	"slices"
	"testing"

	"pacemaker/api"
	"pacemaker/config"
	"pacemaker/power"
)

const (
	one   = 1048576
	top   = 4611686018427387904
	most  = math.MaxInt
	least = math.MinInt
	usual = 104857600 // the usual slope
	knee  = 52429     // the usual knee
)

func bigOf(n int) *big.Int { return big.NewInt(int64(n)) }

// held is the fixed number that n means.
func held(n *big.Int) int {
	switch {
	case n.Cmp(bigOf(top)) > 0:
		return top
	case n.Cmp(bigOf(-top)) < 0:
		return -top
	}
	return int(n.Int64())
}

func fixed(n int) int { return held(bigOf(n)) }

// scaled is a times n, by d, which is above 0, as layer 2 tells it.
func scaled(a, n, d int) int {
	all := new(big.Int).Mul(bigOf(fixed(a)), bigOf(n))
	size := new(big.Int).Abs(all)
	size.Add(size.Lsh(size, 1), bigOf(d))
	size.Quo(size, bigOf(2*d))
	return held(size.Mul(size, bigOf(all.Sign())))
}

// product is layer 2's.
func product(a, b int) int { return scaled(a, fixed(b), one) }

// less is layer 2's.
func less(a, b int) int { return held(new(big.Int).Sub(bigOf(fixed(a)), bigOf(fixed(b)))) }

// units are layer 13's.
func units(rate int) int { return scaled(rate, one, 1000) }

// worthOf is P14.1 word for word.
func worthOf(c api.Config, s api.Stats) int {
	gain := product(units(s.Good), power.Curve(c.Slope, s.Loss, c.Knee))
	return less(gain, product(units(s.Rate), s.Loss))
}

// sentOf is P14.2 word for word.
func sentOf(rate, room int) api.Stats {
	var s api.Stats
	if rate > 0 {
		s.Rate = rate
	}
	if room > 0 {
		s.Good = min(s.Rate, room)
	}
	lost := new(big.Int).Sub(bigOf(s.Rate), bigOf(s.Good))
	if lost.Sign() == 0 {
		return s
	}
	// To the nearest; of two that are as near the greater one.
	lost.Add(lost.Lsh(lost, 21), bigOf(s.Rate))
	s.Loss = int(lost.Quo(lost, new(big.Int).Lsh(bigOf(s.Rate), 1)).Int64())
	return s
}

// by is a usual config, but with this slope and knee.
func by(slope, knee int) api.Config {
	c := config.Usual(api.Allegro)
	c.Slope, c.Knee = slope, knee
	return c
}

// edges are 0, the ends of all kinds, what is beside them, and some others.
func edges() []int {
	l := []int{least, least + 1, most - 1, most, 1500, 999, 2621440, knee, usual}
	for _, n := range []int{0, 3, 1000, one / 2, one, 2 * one, 1000000, 1000000000, 1 << 40, top / one * 1000, top / 2, top} {
		for beside := -1; beside <= 1; beside++ {
			l = append(l, n+beside, -n+beside)
		}
	}
	slices.Sort(l)
	return slices.Compact(l)
}

// random makes the same numbers at each run.
type random uint64

func (r *random) below(n int) int {
	*r = *r*6364136223846793005 + 1442695040888963407
	return int(uint64(*r)>>33) % n
}

// size is any int that is not below 0, small or great.
func (r *random) size() int {
	return (r.below(1<<31)<<32 | r.below(1<<31)<<1 | r.below(2)) >> r.below(63)
}

// any is any int, small or great, of both signs.
func (r *random) any() int {
	n := r.size()
	if r.below(2) == 0 {
		return ^n
	}
	return n
}

func TestTheChaptersExamples(t *testing.T) { // P14.2
	c := config.Usual(api.Allegro)
	if n := Model(c, 1000000, 2000000); n != 1041558000 {
		t.Errorf("%d", n)
	}
	for _, room := range edges() {
		if n := Model(c, 0, room); n != 0 {
			t.Errorf("%d: %d", room, n)
		}
	}
}

func TestWorth(t *testing.T) { // P14.1
	for i, x := range []struct{ slope, knee, rate, good, loss, want int }{
		{usual, knee, 0, 0, 0, 0},
		{usual, knee, 1000, 1000, 0, 1041558},
		{usual, knee, 1000, 1000, knee, one/2 - knee}, // at its knee the curve is a half
		{usual, knee, 1000000, 1000000, knee, 471859000},
		{usual, knee, 1000, 1000, 2 * knee, 7018 - 2*knee},
		{usual, knee, 1000, 1000, one, -one}, // behind its knee the curve is 0
		{usual, knee, 1000, 0, one, -one},
		{usual, knee, 0, 1000, 0, 1041558},
		{usual, knee, 2000, 1000, 0, 1041558}, // without loss, what is sent costs nothing
		{usual, knee, 2000, 1000, knee, one/2 - 2*knee},
		{usual, 0, 1000, 1000, 0, one / 2},
		{usual, 2 * knee, 1000, 1000, knee, 1041558 - knee},
		{one, one / 2, 1000, 1000, one / 2, 0},
		{0, 7, 2000, 2000, 0, one}, // a curve without slope is a half everywhere
		{0, 7, 2000, 2000, one, -one},
		{0, 7, 3, 1, 0, 525},     // 524 and a half: 1 by 1000 is 1049 parts
		{0, 7, 1, 2, 1000, 1048}, // 1048 and a half, which is 1049, less 1
		{0, 7, 1, 0, 500, -1},    // half a part, and some
		{0, 7, 1, 0, 499, 0},
		{0, 7, 1, 0, -500, 1},
		{0, 7, 1, 0, -499, 0},
		{0, 7, 2000, 0, one / 4, -one / 2},
		{0, 7, 2000, 4000, one / 4, 2*one - one/2},
		{0, 7, -2000, 0, one / 4, one / 2}, // what is below 0 counts as it is
		{0, 7, 0, -2000, one / 4, -one},
		{0, 7, -2000, -2000, one / 4, -one + one/2},
		{0, 7, 2000, 0, -one, 2 * one},
		{0, 7, 1000, 0, 3 * one, -3 * one}, // and so does what is above 1
		{-usual, knee, 1000, 0, 0, 0},
		{-usual, knee, 1000, 1000, 0, 7018}, // a slope below 0 turns the curve
		{-usual, 0, 0, 1000, knee, 1041558},
		{usual, -knee, 0, 1000, 0, 7018},
		{usual, -knee, 0, 1000, -2 * knee, 1041558},
	} {
		s := api.Stats{Rate: x.rate, Good: x.good, Loss: x.loss}
		if n := Worth(by(x.slope, x.knee), s); n != x.want {
			t.Errorf("%d: %+v: %d, not %d", i, s, n, x.want)
		}
	}
}

func TestWorthAtTheEnds(t *testing.T) { // P14.1
	for i, x := range []struct{ slope, knee, rate, good, loss, want int }{
		{0, 0, 0, top, 0, top / 2}, // the units are held ahead of the product
		{0, 0, 0, most, 0, top / 2},
		{0, 0, 0, least, 0, -top / 2},
		{0, 0, most, 0, one, -top},
		{0, 0, least, 0, one, top},
		{0, 0, most, most, one, -top / 2},
		{0, 0, most, most, one / 2, 0},
		{0, 0, least, least, one, top / 2},
		{0, 0, least, most, one, top}, // and the whole is held
		{0, 0, most, least, one, -top},
		{0, 0, 1000, most, most, -top / 2}, // and each product
		{0, 0, 1000, most, least, top},
		{0, 0, 2000, least, top, -top},
		{0, 0, -2000, 2000, least, -top + one},
		{0, 0, 2000, 2000, most, -top + one},
		{1, most, 1000, 1000, least, top},
		{most, most, 0, 1000, most, one / 2}, // top less top
		{most, least, 0, 1000, most, 0},
		{least, least, 0, 1000, most, one},
		{most, most, 0, 1000, least, one},
		{most, top, 0, 1000, top + 1, one / 2}, // what is beyond the ends means them
		{most, top - 1, 0, 1000, top, 0},
	} {
		s := api.Stats{Rate: x.rate, Good: x.good, Loss: x.loss}
		if n := Worth(by(x.slope, x.knee), s); n != x.want {
			t.Errorf("%d: %+v: %d, not %d", i, s, n, x.want)
		}
	}
}

func TestWorthIsThatOfItsWords(t *testing.T) { // P14.1
	all := edges()
	for i, rate := range all {
		for j, good := range all {
			for k := range 4 {
				c := by(all[(i*5+j+k*3)%len(all)], all[(i+j*3+k*7)%len(all)])
				s := api.Stats{Rate: rate, Good: good, Loss: all[(i*7+j*11+k*13)%len(all)]}
				if got, want := Worth(c, s), worthOf(c, s); got != want {
					t.Fatalf("%d, %d, %+v: %d, not %d", c.Slope, c.Knee, s, got, want)
				}
			}
		}
	}
	r := random(1)
	partly := 0
	for range 20000 {
		c := by(r.any(), r.any())
		s := api.Stats{Rate: r.any(), Good: r.any(), Loss: r.any()}
		if r.below(2) == 0 { // what is usual, or near it
			c = by(r.below(300*one), r.below(one/2))
			s = api.Stats{Rate: r.below(1000000000), Good: r.below(1000000000), Loss: c.Knee + r.below(2*knee) - knee}
		}
		got, want := Worth(c, s), worthOf(c, s)
		if got != want {
			t.Fatalf("%d, %d, %+v: %d, not %d", c.Slope, c.Knee, s, got, want)
		}
		if kept := power.Curve(c.Slope, s.Loss, c.Knee); kept > 0 && kept < one {
			partly++
		}
	}
	if partly < 5000 {
		t.Errorf("%d on the curve", partly)
	}
}

// By floats, too, which know nothing of layers: within a thousandth of what came through, and of what it cost.
func TestWorthIsNearWhatFloatsTell(t *testing.T) { // P14.1
	r := random(2)
	for range 5000 {
		c := by(r.below(200*one), r.below(one/2))
		s := api.Stats{Rate: 1000 + r.below(1000000000), Good: 1000 + r.below(1000000000), Loss: r.below(one + 1)}
		loss := float64(s.Loss) / one
		kept := 1 / (1 + math.Exp(float64(c.Slope)/one*(loss-float64(c.Knee)/one)))
		brought, paid := float64(s.Good)/1000*kept, float64(s.Rate)/1000*loss
		if n := float64(Worth(c, s)) / one; math.Abs(n-(brought-paid)) > (float64(s.Good)+float64(s.Rate))/1000000 {
			t.Fatalf("%d, %d, %+v: %f, not %f", c.Slope, c.Knee, s, n, brought-paid)
		}
	}
}

// How long the way is, how that is spread, how it rises, and of how many samples, count for nothing, and so does all else of a config.
func TestNothingElseCounts(t *testing.T) { // P14.1
	r := random(3)
	for range 3000 {
		c := by(r.below(200*one), r.below(one/2))
		s := api.Stats{Rate: r.below(1000000000), Good: r.below(1000000000), Loss: r.below(one + 1)}
		want := Worth(c, s)
		s.Mean, s.Dev, s.Grade, s.N = r.any(), r.any(), r.any(), r.any()
		if n := Worth(c, s); n != want {
			t.Fatalf("%+v: %d, not %d", s, n, want)
		}
		other := api.Config{Mode: r.any(), MinRate: r.any(), MaxRate: r.any(), StartRate: r.any(), Packet: r.any(), Burst: r.any(), Ring: r.any(), MiMin: r.any(), MiMax: r.any(), Timeout: r.any(), Eps: r.any(), Steps: r.any(), Omega: r.any(), Widen: r.any(), Gain: r.any(), Knee: c.Knee, Slope: c.Slope, Power: r.any(), Lag: r.any(), Loss: r.any(), Jitter: r.any(), Cut: r.any()}
		if n := Worth(other, s); n != want {
			t.Fatalf("%+v, %+v: %d, not %d", other, s, n, want)
		}
		rate, room := r.below(1000000000), r.below(1000000000)
		if n, want := Model(other, rate, room), Model(c, rate, room); n != want {
			t.Fatalf("%+v, %d, %d: %d, not %d", other, rate, room, n, want)
		}
	}
}

func TestSent(t *testing.T) { // P14.2
	for i, x := range []struct{ rate, room, good, loss int }{
		{0, 0, 0, 0},
		{1, 1, 1, 0},
		{1, 0, 0, one},
		{1, -1, 0, one},
		{1, least, 0, one},
		{1, most, 1, 0},
		{2, 1, 1, one / 2},
		{3, 1, 1, 699051}, // 699050 and two thirds
		{3, 2, 2, 349525}, // and a third
		{1000000, 2000000, 1000000, 0},
		{2000000, 2000000, 2000000, 0},
		{2000001, 2000000, 2000000, 1}, // 52 hundredths of a part
		{4000000, 1000000, 1000000, 3 * one / 4},
		{2 * one, 2*one - 1, 2*one - 1, 1}, // half a part
		{2*one + 1, 2 * one, 2 * one, 0},
		{2*one - 1, 2*one - 2, 2*one - 2, 1},
		{2 * one, 2*one - 3, 2*one - 3, 2}, // 1 part and a half
		{2 * one, 1, 1, one},               // half a part below
		{2*one - 1, 1, 1, one - 1},
		{one, 1, 1, one - 1},
		{most, most, most, 0},
		{most, most - 1, most - 1, 0},
		{most, most - 1<<42, most - 1<<42, 1}, // half a part, and some
		{most, most - 1<<42 + 1, most - 1<<42 + 1, 0},
		{most, top, top, one / 2},
		{most, 0, 0, one},
		{most, 1, 1, one},
		{most, least, 0, one},
		{3 * (top / 2), top, top, 349525},
		{3 * (top / 2), top / 2, top / 2, 699051},
		{top, top / 4, top / 4, 3 * one / 4},
		{top + 1, top, top, 0},
	} {
		if s := Sent(x.rate, x.room); s != (api.Stats{Rate: x.rate, Good: x.good, Loss: x.loss}) {
			t.Errorf("%d: %+v", i, s)
		}
	}
}

func TestNothingIsSentBelow0(t *testing.T) { // P14.2
	c := config.Usual(api.Allegro)
	for _, rate := range []int{0, -1, -2, -1000, -top, -top - 1, least + 1, least} {
		for _, room := range edges() {
			if s := Sent(rate, room); s != (api.Stats{}) {
				t.Errorf("%d, %d: %+v", rate, room, s)
			}
			if n := Model(c, rate, room); n != 0 {
				t.Errorf("%d, %d: %d", rate, room, n)
			}
		}
	}
}

// sends tells what is wrong with a rate and a room.
func sends(t *testing.T, c api.Config, rate, room int) {
	t.Helper()
	want := sentOf(rate, room)
	if s := Sent(rate, room); s != want {
		t.Fatalf("%d, %d: %+v, not %+v", rate, room, s, want)
	}
	if n, want := Model(c, rate, room), worthOf(c, want); n != want {
		t.Fatalf("%d, %d, %d, %d: %d, not %d", c.Slope, c.Knee, rate, room, n, want)
	}
}

func TestSentAndModelAreThoseOfTheirWords(t *testing.T) { // P14.2
	all := edges()
	for i, rate := range all {
		for j, room := range all {
			sends(t, config.Usual(api.Allegro), rate, room)
			sends(t, by(all[(i+j*3)%len(all)], all[(i*5+j)%len(all)]), rate, room)
		}
	}
	r := random(4)
	beyond := 0
	for range 20000 {
		rate := r.any()
		room := r.any()
		if r.below(2) == 0 {
			room = rate - r.below(1000)*(rate/1000)
		}
		sends(t, by(r.below(200*one), r.below(one/2)), rate, room)
		if rate > room && room > 0 {
			beyond++
		}
	}
	if beyond < 4000 {
		t.Errorf("%d beyond the room", beyond)
	}
}

// slopes are those that are not below 0.
func slopes() []int {
	return []int{0, 1, one / 7, one, 10 * one, usual, 1000 * one, 1 << 40, top, most}
}

func knees() []int {
	return []int{1, knee, one / 2, one, 0, -1, -knee, 3 * one, most, least}
}

func rooms() []int {
	return []int{0, 1, 2, 7, 999, 1000, 1000000, 1000003, 1000000000, 1 << 40, top / one * 1000, top - 1, top, top + 1, 3 * (top / 2), most - 1, most, -1, least}
}

// rates are those around a room, near and far from it, in their order.
func rates(room int) []int {
	l := []int{0, 1, 2, 3, 1000, 1000000, top / one * 1000, top, most, -1, least, 2 * (room / 2), room}
	for part := 1; part <= 40 && room > 0; part++ {
		l = append(l, room/40*part, room-part, room-room/100*part)
		if room <= most-part {
			l = append(l, room+part)
		}
		if step := room/1000*part + part; room <= most-step {
			l = append(l, room+step)
		}
		if room <= most/4 {
			l = append(l, room+room/10*part/2)
		}
	}
	slices.Sort(l)
	return slices.Compact(l)
}

func TestTheModelIsGreatestAtTheRoom(t *testing.T) { // P14.3
	for i, slope := range slopes() {
		for j, room := range rooms() {
			c := by(slope, knees()[(i*3+j)%len(knees())])
			highest := Model(c, room, room)
			before := Model(c, least, room)
			for _, rate := range rates(room) {
				n := Model(c, rate, room)
				if rate <= room && n < before || rate > room && n > before || n > highest {
					t.Fatalf("%d, %d, %d, %d: %d, not %d, %d", c.Slope, c.Knee, rate, room, n, before, highest)
				}
				before = n
			}
		}
	}
}

// By a usual config, it does rise up to the room, and falls beyond it.
func TestTheModelRisesAndFalls(t *testing.T) { // P14.3
	c := config.Usual(api.Allegro)
	for _, room := range []int{10000, 200000, 1000000, 125000000} {
		before := -1
		for part := range 101 {
			n := Model(c, room/100*part, room)
			if n <= before {
				t.Fatalf("%d, %d: %d, not above %d", part, room, n, before)
			}
			before = n
		}
		for part := 101; part <= 500; part++ {
			n := Model(c, room/100*part, room)
			if n >= before {
				t.Fatalf("%d, %d: %d, not below %d", part, room, n, before)
			}
			before = n
		}
		if before >= 0 {
			t.Errorf("%d: %d", room, before)
		}
	}
}

func TestWhatLosesMoreIsNotWorthMore(t *testing.T) { // P14.3
	r := random(5)
	falls := 0
	for range 30000 {
		c := by(r.size(), r.any())
		s := api.Stats{Rate: r.size(), Good: r.size(), Loss: r.any()}
		more := s
		more.Loss = r.any()
		if r.below(2) == 0 {
			c = by(r.below(200*one), r.below(one/2))
			s.Loss = r.below(one + 1)
			more.Loss = s.Loss + r.below(100)
		}
		s.Loss, more.Loss = min(s.Loss, more.Loss), max(s.Loss, more.Loss)
		got, lower := Worth(c, s), Worth(c, more)
		if lower > got {
			t.Fatalf("%d, %d, %+v: %d; with a loss of %d it is %d", c.Slope, c.Knee, s, got, more.Loss, lower)
		}
		if lower < got {
			falls++
		}
	}
	if falls < 10000 {
		t.Errorf("%d fall", falls)
	}
}

// One part of loss after the other: none of them raises what an interval is worth.
func TestEachPartOfLoss(t *testing.T) { // P14.3
	for _, slope := range []int{0, one, usual, 5000 * one} {
		c := by(slope, knee)
		for _, good := range []int{0, 950000, 1000000} {
			s := api.Stats{Rate: 1000000, Good: good}
			before := Worth(c, s)
			for loss := knee - 3000; loss <= knee+3000; loss++ {
				s.Loss = loss
				n := Worth(c, s)
				if n >= before {
					t.Fatalf("%d, %+v: %d, not below %d", slope, s, n, before)
				}
				before = n
			}
		}
	}
}
