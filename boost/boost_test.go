package boost

import (
	"math"
	"math/big"
	"slices"
	"testing"

	"pacemaker/api"
	"pacemaker/config"
	"pacemaker/probe"
)

const (
	one   = api.One
	half  = api.One / 2
	top   = 4611686018427387904
	most  = math.MaxInt
	least = math.MinInt
)

// of is the boost of a side and a run.
func of(side, run int) api.Boost { return api.Boost{Side: side, Run: run} }

func turned(b api.Boost) api.Boost { return of(-b.Side, b.Run) }

// signOf tells the side of n.
func signOf(n int) int {
	switch {
	case n > 0:
		return 1
	case n < 0:
		return -1
	}
	return 0
}

// isOf is what the chapter calls right, word for word.
func isOf(b api.Boost) bool {
	switch b.Side {
	case 0:
		return b.Run == 0
	case 1, -1:
		return b.Run >= 1 && b.Run <= 63
	}
	return false
}

// nextOf is P20.1 word for word.
func nextOf(b api.Boost, side int) api.Boost {
	s := signOf(side)
	switch {
	case s == 0:
		return of(0, 0)
	case !isOf(b) || b.Side != s:
		return of(s, 1)
	case b.Run == 63:
		return of(s, 63)
	}
	return of(s, b.Run+1)
}

// gainOf is P20.2 word for word.
func gainOf(b api.Boost) int {
	if !isOf(b) || b.Side == 0 {
		return 0
	}
	halves := b.Run + 1
	return halves * half
}

// fixedOf is the fixed number that is nearest to n.
func fixedOf(n *big.Int) *big.Int {
	end := big.NewInt(top)
	if n.CmpAbs(end) <= 0 {
		return n
	}
	return end.Mul(end, big.NewInt(int64(n.Sign())))
}

// scaleOf is layer 2's: a times n, by what is above 0, to the nearest; of two that are as near the one farther from 0.
func scaleOf(a, n *big.Int, d int64) *big.Int {
	product := new(big.Int).Mul(fixedOf(a), n)
	sign := big.NewInt(int64(product.Sign()))
	product.Abs(product).Lsh(product, 1).Add(product, big.NewInt(d)).Quo(product, big.NewInt(2*d))
	return fixedOf(product.Mul(product, sign))
}

// mulOf is layer 2's.
func mulOf(a, b *big.Int) *big.Int { return scaleOf(a, fixedOf(b), one) }

// changeOf is P20.3 word for word.
func changeOf(c api.Config, b api.Boost, grade int) int {
	if signOf(grade) != b.Side {
		return 0
	}
	product := mulOf(big.NewInt(int64(c.Gain)), big.NewInt(int64(gainOf(b))))
	product = mulOf(product, big.NewInt(int64(grade)))
	return int(scaleOf(product, big.NewInt(1000), one).Int64())
}

// by is a usual config, but with this gain.
func by(gain int) api.Config {
	c := config.Usual(api.Vivace)
	c.Gain = gain
	return c
}

// rights are all right boosts.
func rights() []api.Boost {
	l := []api.Boost{of(0, 0)}
	for run := 1; run <= 63; run++ {
		l = append(l, of(1, run), of(-1, run))
	}
	return l
}

// edges are 0, the ends of all kinds, what is beside them, and some others.
func edges() []int {
	l := []int{least, least + 1, most - 1, most}
	for _, n := range []int{0, 3, 32, 63, 524, 1000, 1049, half, one, 3 * half, 32 * one, 1 << 40, top / 1000, top / 32, top / 2, top} {
		for beside := -1; beside <= 1; beside++ {
			l = append(l, n+beside, -n+beside)
		}
	}
	slices.Sort(l)
	return slices.Compact(l)
}

// boosts are all right ones, and others, that are wrong in a side, a run, or both.
func boosts() []api.Boost {
	l := rights()
	for _, n := range edges() {
		l = append(l, of(0, n), of(1, n), of(-1, n), of(n, 0), of(n, 1), of(n, 63), of(n, n))
	}
	return l
}

// random makes the same numbers at each run.
type random uint64

func (r *random) below(n int) int {
	*r = *r*6364136223846793005 + 1442695040888963407
	return int(uint64(*r)>>33) % n
}

// size is any int that is not below 0, small or great.
func (r *random) size() int {
	return (r.below(1<<31)<<32 | r.below(1<<31)<<1 | r.below(2)) >> r.below(63)
}

// any is any int, small or great, of both signs.
func (r *random) any() int {
	n := r.size()
	if r.below(2) == 0 {
		return ^n
	}
	return n
}

// gain is one that a right config has, small or great.
func (r *random) gain() int { return 1 + r.size()%(1<<40) }

// right is a right boost.
func (r *random) right() api.Boost {
	l := rights()
	return l[r.below(len(l))]
}

// loose is a boost that may be wrong in any way.
func (r *random) loose() api.Boost {
	b := r.right()
	switch r.below(5) {
	case 0:
		b.Side = r.any()
	case 1:
		b.Run = r.any()
	case 2:
		b.Run = r.below(70) - 3
	case 3:
		b.Side = r.below(5) - 2
	}
	return b
}

func TestTheChaptersExamples(t *testing.T) { // P20.1, P20.2, P20.3
	if b := Next(of(1, 2), 5); b != of(1, 3) {
		t.Errorf("%+v", b)
	}
	if gain := Gain(of(1, 3)); gain != 2097152 {
		t.Errorf("%d", gain)
	}
	if change := Change(config.Usual(api.Vivace), of(1, 1), 1048576); change != 1000 {
		t.Errorf("%d", change)
	}
}

func TestIs(t *testing.T) { // P20.1
	for _, x := range []struct {
		b    api.Boost
		want bool
	}{
		{of(0, 0), true},
		{of(0, 1), false},
		{of(0, 63), false},
		{of(0, -1), false},
		{of(0, least), false},
		{of(0, most), false},
		{of(1, 1), true},
		{of(1, 2), true},
		{of(1, 62), true},
		{of(1, 63), true},
		{of(1, 64), false},
		{of(1, 0), false},
		{of(1, -1), false},
		{of(1, least), false},
		{of(1, most), false},
		{of(-1, 1), true},
		{of(-1, 63), true},
		{of(-1, 64), false},
		{of(-1, 0), false},
		{of(-1, -1), false},
		{of(2, 1), false},
		{of(-2, 1), false},
		{of(2, 0), false},
		{of(-2, 0), false},
		{of(2, 63), false},
		{of(least, 1), false},
		{of(most, 1), false},
		{of(least, least), false},
	} {
		if Is(x.b) != x.want {
			t.Errorf("%+v: not %t", x.b, x.want)
		}
	}
}

func TestIsWordForWord(t *testing.T) { // P20.1
	for _, b := range boosts() {
		if Is(b) != isOf(b) {
			t.Fatalf("%+v: not %t", b, isOf(b))
		}
	}
	for side := -5; side <= 5; side++ {
		for run := -5; run <= 70; run++ {
			if b := of(side, run); Is(b) != isOf(b) {
				t.Fatalf("%+v: not %t", b, isOf(b))
			}
		}
	}
}

func TestNext(t *testing.T) { // P20.1
	for _, x := range []struct {
		b    api.Boost
		side int
		want api.Boost
	}{
		{of(0, 0), 1, of(1, 1)},
		{of(0, 0), most, of(1, 1)},
		{of(0, 0), -1, of(-1, 1)},
		{of(0, 0), least, of(-1, 1)},
		{of(0, 0), 0, of(0, 0)},
		{of(1, 1), 1, of(1, 2)},
		{of(1, 1), 7, of(1, 2)},
		{of(1, 1), most, of(1, 2)},
		{of(-1, 1), -7, of(-1, 2)},
		{of(-1, 1), least, of(-1, 2)},
		{of(1, 61), 1, of(1, 62)},
		{of(1, 62), 1, of(1, 63)},
		{of(1, 63), 1, of(1, 63)}, // 63 at most
		{of(-1, 62), -2, of(-1, 63)},
		{of(-1, 63), -2, of(-1, 63)},
		{of(1, 63), -1, of(-1, 1)}, // another side begins anew
		{of(1, 1), least, of(-1, 1)},
		{of(-1, 63), 1, of(1, 1)},
		{of(-1, 5), most, of(1, 1)},
		{of(1, 5), 0, of(0, 0)},
		{of(-1, 63), 0, of(0, 0)},
		// So does one that isn't right.
		{of(1, 64), 1, of(1, 1)},
		{of(1, most), 1, of(1, 1)},
		{of(1, 0), 1, of(1, 1)},
		{of(1, -1), 1, of(1, 1)},
		{of(-1, 0), -1, of(-1, 1)},
		{of(-1, least), -1, of(-1, 1)},
		{of(-1, 64), -1, of(-1, 1)},
		{of(0, 3), 1, of(1, 1)},
		{of(0, 3), -1, of(-1, 1)},
		{of(2, 3), 2, of(1, 1)},
		{of(-2, 3), -2, of(-1, 1)},
		{of(most, most), most, of(1, 1)},
		{of(0, 3), 0, of(0, 0)},
		{of(2, 3), 0, of(0, 0)},
		{of(1, 64), 0, of(0, 0)},
		{of(least, least), 0, of(0, 0)},
	} {
		if b := Next(x.b, x.side); b != x.want {
			t.Errorf("%+v: %+v", x, b)
		}
	}
}

func TestNextWordForWord(t *testing.T) { // P20.1
	for _, b := range boosts() {
		for _, side := range edges() {
			if next := Next(b, side); next != nextOf(b, side) || !isOf(next) {
				t.Fatalf("%+v, %d: %+v, not %+v", b, side, next, nextOf(b, side))
			}
		}
	}
	r := random(20)
	for range 50000 {
		b, side := r.loose(), r.any()
		if next := Next(b, side); next != nextOf(b, side) {
			t.Fatalf("%+v, %d: %+v, not %+v", b, side, next, nextOf(b, side))
		}
	}
}

func TestGain(t *testing.T) { // P20.2
	for _, x := range []struct {
		b    api.Boost
		want int
	}{
		{of(0, 0), 0},
		{of(1, 1), one},
		{of(-1, 1), one}, // it is the same to both sides
		{of(1, 2), one + half},
		{of(-1, 2), one + half},
		{of(1, 3), 2 * one},
		{of(1, 62), 31*one + half},
		{of(1, 63), 32 * one},
		{of(-1, 63), 32 * one},
		{of(1, 0), 0},
		{of(1, -1), 0},
		{of(1, -5), 0},
		{of(1, 64), 0},
		{of(-1, 64), 0},
		{of(1, most), 0},
		{of(1, least), 0},
		{of(0, 1), 0},
		{of(0, 63), 0},
		{of(0, -1), 0},
		{of(2, 1), 0},
		{of(-2, 1), 0},
		{of(2, 0), 0},
		{of(most, 1), 0},
		{of(least, 1), 0},
	} {
		if gain := Gain(x.b); gain != x.want {
			t.Errorf("%+v: %d", x, gain)
		}
	}
}

func TestGainWordForWord(t *testing.T) { // P20.2
	for _, b := range boosts() {
		if gain := Gain(b); gain != gainOf(b) {
			t.Fatalf("%+v: %d, not %d", b, gain, gainOf(b))
		}
	}
}

func TestChange(t *testing.T) { // P20.3
	for _, x := range []struct {
		gain        int
		b           api.Boost
		grade, want int
	}{
		{one, of(1, 1), one, 1000},
		{one, of(-1, 1), -one, -1000},
		{one, of(1, 2), one, 1500},
		{one, of(1, 63), one, 32000},
		{one, of(-1, 3), -2 * one, -4000},
		{3 * one, of(1, 2), 5 * one, 22500},
		// A grade of another side changes nothing.
		{one, of(1, 1), -one, 0},
		{one, of(-1, 1), one, 0},
		{one, of(1, 63), 0, 0},
		{one, of(-1, 63), 0, 0},
		{one, of(0, 0), one, 0},
		{one, of(0, 0), -one, 0},
		{one, of(0, 0), 0, 0},
		{one, of(1, 1), least, 0},
		{one, of(-1, 1), most, 0},
		// Nor does a boost that isn't right.
		{one, of(1, 0), one, 0},
		{one, of(1, 64), one, 0},
		{one, of(-1, -1), -one, 0},
		{one, of(2, 1), one, 0},
		{one, of(2, 1), 2 * one, 0},
		{one, of(one, 1), one, 0},
		{one, of(0, 5), 0, 0},
		{one, of(0, 5), one, 0},
		{most, of(1, most), most, 0},
		// Parts of a byte are rounded to the nearest.
		{one, of(1, 1), 1, 0},
		{one, of(1, 1), 524, 0},
		{one, of(1, 1), 525, 1},
		{one, of(-1, 1), -525, -1},
		{one, of(1, 1), 1048, 1},
		{one, of(1, 1), 1572, 1},
		{one, of(1, 1), 1573, 2},
		{one, of(1, 1), 65536, 63}, // 62 and a half
		{one, of(-1, 1), -65536, -63},
		{one, of(1, 2), 699, 1}, // 1048 parts and a half are 1049
		// The first two are multiplied first: 1 and a half of a part are 2.
		{1, of(1, 2), one, 0},
		{1, of(1, 2), 1000 * one, 2},
		{1, of(1, 2), 1000000 * one, 1907},
		{3, of(1, 2), 1000000 * one, 4768}, // 4 and a half are 5
		{1, of(-1, 2), -1000000 * one, -1907},
		{1 << 40, of(1, 63), 1, 32000},
		// Top is the greatest product, and the greatest change.
		{one, of(1, 63), top, 4398046511104000},
		{one, of(1, 63), most, 4398046511104000},
		{one, of(-1, 63), -top, -4398046511104000},
		{one, of(-1, 63), least, -4398046511104000},
		{1 << 40, of(1, 1), 1 << 42, 4398046511104000},
		{1 << 40, of(1, 1), 1<<42 - 1, 4398046511103000},
		{1 << 40, of(-1, 1), -1 << 43, -4398046511104000},
		{top, of(1, 63), 1, 4194304000},
		// A config need not be right.
		{0, of(1, 63), top, 0},
		{-one, of(1, 1), one, -1000},
		{-one, of(-1, 1), -one, 1000},
		{least, of(1, 1), one, -4398046511104000},
		{most, of(1, 1), one, 4398046511104000},
	} {
		if change := Change(by(x.gain), x.b, x.grade); change != x.want {
			t.Errorf("%+v: %d", x, change)
		}
	}
}

func TestChangeWordForWord(t *testing.T) { // P20.3
	check := func(gain int, b api.Boost, grade int) {
		t.Helper()
		c := by(gain)
		if change := Change(c, b, grade); change != changeOf(c, b, grade) {
			t.Fatalf("%d, %+v, %d: %d, not %d", gain, b, grade, change, changeOf(c, b, grade))
		}
	}
	some := []api.Boost{of(0, 0), of(1, 1), of(1, 2), of(1, 62), of(1, 63), of(-1, 1), of(-1, 2), of(-1, 63), of(1, 64), of(-1, 0), of(0, 5), of(2, 1)}
	for _, gain := range edges() {
		for _, grade := range edges() {
			for _, b := range some {
				check(gain, b, grade)
			}
		}
	}
	r := random(21)
	for range 50000 {
		check(r.gain(), r.right(), r.any())
		check(r.any(), r.loose(), r.any())
	}
}

func TestNothingElseCounts(t *testing.T) { // P20.3
	other := api.Config{Mode: 9, MinRate: 7, MaxRate: 5, StartRate: 3, Packet: 1, Burst: 2, Ring: 3, MiMin: 4, MiMax: 5, Timeout: 6, Eps: 7, Steps: 8, Omega: 9, Widen: 10, Knee: 12, Slope: 13, Power: 14, Lag: 15, Loss: 16, Jitter: 17, Cut: 18}
	r := random(22)
	for range 10000 {
		b, grade := r.right(), r.any()
		other.Gain = r.gain()
		if Change(by(other.Gain), b, grade) != Change(other, b, grade) {
			t.Fatalf("%+v, %+v, %d", other, b, grade)
		}
	}
}

func TestASideThatComesAgain(t *testing.T) { // P20.4
	for _, side := range []int{1, -1, 5, -7, most, least} {
		b := api.Boost{}
		for i := range 100 {
			last := Gain(b)
			b = Next(b, side)
			want := last + half
			switch {
			case i == 0:
				want = one
			case i >= 63:
				want = 32 * one
			}
			if gain := Gain(b); gain != want || b.Side != signOf(side) || !Is(b) {
				t.Errorf("%d, %d: %+v, %d, not %d", side, i, b, gain, want)
			}
		}
		// Another one begins anew, and so does the same one behind it.
		for _, again := range []int{^side, side, 0, side} {
			b = Next(b, again)
			if gain := Gain(b); again == 0 && gain != 0 || again != 0 && gain != one {
				t.Errorf("%d, %d: %+v, %d", side, again, b, gain)
			}
		}
	}
}

func TestAChangeHasTheSideOfTheGrade(t *testing.T) { // P20.4
	r := random(23)
	sides := map[int]int{}
	for range 50000 {
		c, b, grade := by(r.gain()), r.right(), r.any()
		change := Change(c, b, grade)
		sides[probe.Side(change)]++
		// It is 0, too, where it is below half a byte.
		if change != 0 && (probe.Side(change) != probe.Side(grade) || probe.Side(change) != b.Side) {
			t.Fatalf("%+v, %+v, %d: %d", c, b, grade, change)
		}
	}
	if sides[1] < 5000 || sides[-1] < 5000 || sides[0] < 5000 {
		t.Errorf("%v", sides)
	}
}

func TestWhatIsTurned(t *testing.T) { // P20.4
	r := random(24)
	for range 50000 {
		c, b, grade := by(r.gain()), r.loose(), r.any()
		if grade == least || b.Side == least {
			continue // neither can be turned
		}
		if change, back := Change(c, b, grade), Change(c, turned(b), -grade); back != -change {
			t.Fatalf("%+v, %+v, %d: %d, %d", c, b, grade, change, back)
		}
		if Gain(turned(b)) != Gain(b) || Is(turned(b)) != Is(b) || Next(turned(b), -grade) != turned(Next(b, grade)) {
			t.Fatalf("%+v, %d", b, grade)
		}
	}
}

func TestAGreaterGainChangesNoLess(t *testing.T) { // P20.4
	r := random(25)
	for range 5000 {
		c, grade := by(r.gain()), 1+r.size()>>1
		last := 0
		for run := 1; run <= 63; run++ {
			change := Change(c, of(1, run), grade)
			if change < last {
				t.Fatalf("%+v, %d, %d: %d, %d", c, run, grade, change, last)
			}
			last = change
		}
	}
}
