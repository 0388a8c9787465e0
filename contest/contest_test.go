package contest

import (
	"math"
	"math/big"
	"slices"
	"testing"

	"pacemaker/api"
	"pacemaker/config"
)

const (
	top   = 4611686018427387904
	most  = math.MaxInt
	least = math.MinInt
)

// Two that go up, in all orders.
var (
	uudd = [4]bool{true, true, false, false}
	udud = [4]bool{true, false, true, false}
	uddu = [4]bool{true, false, false, true}
	duud = [4]bool{false, true, true, false}
	dudu = [4]bool{false, true, false, true}
	dduu = [4]bool{false, false, true, true}
)

func bigOf(n int) *big.Int { return big.NewInt(int64(n)) }

// allOrders are all orders that there are, right or not.
func allOrders() [][4]bool {
	var l [][4]bool
	for i := range 16 {
		l = append(l, [4]bool{i&1 != 0, i&2 != 0, i&4 != 0, i&8 != 0})
	}
	return l
}

func rightOrders() [][4]bool { return [][4]bool{uudd, udud, uddu, duud, dudu, dduu} }

func turned(ways [4]bool) [4]bool {
	for i, up := range ways {
		ways[i] = !up
	}
	return ways
}

// isOf is what the chapter calls right, word for word.
func isOf(x api.Contest) bool {
	ups := 0
	for _, up := range x.Order {
		if up {
			ups++
		}
	}
	if x.Step < 1 || x.Step > 16 || ups != 2 || x.N < 0 || x.N > 4 {
		return false
	}
	for i := x.N; i < 4; i++ {
		if x.Got[i] != 0 {
			return false
		}
	}
	return true
}

// boundOf is layer 8's.
func boundOf(c api.Config, rate int) int {
	switch {
	case rate < c.MinRate:
		return c.MinRate
	case rate > c.MaxRate:
		return c.MaxRate
	}
	return rate
}

// fixedOf is the fixed number that is nearest to n.
func fixedOf(n *big.Int) int {
	switch {
	case n.Cmp(bigOf(top)) > 0:
		return top
	case n.Cmp(bigOf(-top)) < 0:
		return -top
	}
	return int(n.Int64())
}

// stepOf is layer 8's step of a rate by Eps so many times.
func stepOf(c api.Config, rate, steps int, up bool) int {
	eps := bigOf(max(min(c.Eps, top), -top))
	part := max(min(fixedOf(eps.Mul(eps, bigOf(steps))), 1048576), 0)
	if !up {
		part = -part
	}
	r := max(min(boundOf(c, rate), top), -top)
	product := bigOf(r)
	product.Mul(product, bigOf(1048576+part))
	// The nearest; of two that are as near the one farther from 0.
	size := new(big.Int).Abs(product)
	size.Add(size, bigOf(524288)).Rsh(size, 20)
	if product.Sign() < 0 {
		size.Neg(size)
	}
	return boundOf(c, fixedOf(size))
}

// sideOf is P18.3 word for word.
func sideOf(x api.Contest) int {
	if !isOf(x) || x.N != 4 {
		return 0
	}
	var up, down []int
	for i, worth := range x.Got {
		if x.Order[i] {
			up = append(up, worth)
		} else {
			down = append(down, worth)
		}
	}
	switch {
	case up[0] > down[0] && up[1] > down[1]:
		return 1
	case up[0] < down[0] && up[1] < down[1]:
		return -1
	}
	return 0
}

// by is a usual config, but with these rates and this part.
func by(low, high, eps int) api.Config {
	c := config.Usual(api.Allegro)
	c.MinRate, c.MaxRate, c.Eps = low, high, eps
	return c
}

// bounds are right configs, and others, whose least and greatest rates are far apart, near, the same, in the wrong order, and at all ends, and whose parts are, too.
func bounds() []api.Config {
	var l []api.Config
	for _, x := range [][3]int{
		{10000, 125000000, 10486}, {1000, 1000000000, 1}, {1000, 1000000000, 262144}, {50000, 50000, 10486}, {10001, 10002, 524288}, {20000, 10000, 10486}, {0, 0, 10486}, {0, 100, 1048575}, {1, 100, 1048576}, {-5, 5, 1048577}, {-1000, -10, 10486},
		{5, -5, 10486}, {least, most, 10486}, {most, least, 10486}, {least, least, 1}, {most, most, 1}, {0, most, 1}, {1, most, 0}, {1, most, -1}, {least, most, least}, {least, most, most}, {-top - 1, top + 1, top}, {-top, top, -top - 1}, {1, top / 2, 65536},
	} {
		l = append(l, by(x[0], x[1], x[2]))
	}
	return l
}

// edges are 0, the ends of all kinds, what is beside them, and some others.
func edges() []int {
	l := []int{least, least + 1, most - 1, most}
	for _, n := range []int{0, 3, 8, 16, 100, 1000, 10000, 50000, 1048576, 125000000, 1000000000, 1 << 40, top / 2, top} {
		for beside := -1; beside <= 1; beside++ {
			l = append(l, n+beside, -n+beside)
		}
	}
	slices.Sort(l)
	return slices.Compact(l)
}

// random makes the same numbers at each run.
type random uint64

func (r *random) below(n int) int {
	*r = *r*6364136223846793005 + 1442695040888963407
	return int(uint64(*r)>>33) % n
}

// size is any int that is not below 0, small or great.
func (r *random) size() int {
	return (r.below(1<<31)<<32 | r.below(1<<31)<<1 | r.below(2)) >> r.below(63)
}

// any is any int, small or great, of both signs.
func (r *random) any() int {
	n := r.size()
	if r.below(2) == 0 {
		return ^n
	}
	return n
}

// right is a right config.
func (r *random) right() api.Config {
	c := config.Usual(1 + r.below(5))
	c.MinRate = 1000 + r.below(1000000000-999)>>r.below(30)
	c.MaxRate = c.MinRate + r.below(1000000001-c.MinRate)>>r.below(30)
	c.StartRate = c.MinRate
	c.Steps = 1 + r.below(16)
	c.Eps = 1 + r.below(min(262144, 524288/c.Steps))>>r.below(18)
	return c
}

// strange is any config, right or not.
func (r *random) strange() api.Config { return by(r.any(), r.any(), r.any()) }

func (r *random) ways() [4]bool { return rightOrders()[r.below(6)] }

// near is one of few numbers, so that some are the same.
func (r *random) near() int { return r.below(7) - 3 }

// contest is a right contest, told so many times.
func (r *random) contest(n int) api.Contest {
	x := api.Contest{Base: r.any(), Step: 1 + r.below(16), Order: r.ways(), N: n}
	for i := range n {
		x.Got[i] = r.near()
	}
	return x
}

// loose is a contest that may be wrong in any way.
func (r *random) loose() api.Contest {
	x := r.contest(r.below(5))
	switch r.below(6) {
	case 0:
		x.Step = r.any()
	case 1:
		x.Order = allOrders()[r.below(16)]
	case 2:
		x.N = r.any()
	case 3:
		x.N = r.below(8) - 2
	case 4:
		x.Got[r.below(4)] = r.any()
	}
	return x
}

func TestTheChaptersExamples(t *testing.T) { // P18.2, P18.3
	c := config.Usual(api.Allegro)
	x, wrong := New(c, 100000, 2, uddu)
	if l := Rates(c, x); l != [4]int{102000, 98000, 98000, 102000} || wrong != api.OK {
		t.Errorf("%v, %d", l, wrong)
	}
	for want, got := range [][4]int{{5, 5, 2, 4}, {5, 1, 2, 4}} {
		x := x
		for _, worth := range got {
			x, wrong = Tell(x, worth)
		}
		if side := Side(x); side != want || wrong != api.OK {
			t.Errorf("%v: %d, %d", got, side, wrong)
		}
	}
}

func TestIs(t *testing.T) { // P18.1
	for _, x := range []struct {
		x    api.Contest
		want bool
	}{
		{api.Contest{}, false},
		{api.Contest{Step: 1, Order: uudd}, true},
		{api.Contest{Step: 16, Order: uudd}, true},
		{api.Contest{Step: 0, Order: uudd}, false},
		{api.Contest{Step: 17, Order: uudd}, false},
		{api.Contest{Step: -1, Order: uudd}, false},
		{api.Contest{Step: least, Order: uudd}, false},
		{api.Contest{Step: most, Order: uudd}, false},
		{api.Contest{Step: 1, Order: uudd, Base: least}, true}, // whatever the base is
		{api.Contest{Step: 1, Order: uudd, Base: most}, true},
		{api.Contest{Step: 1, Order: [4]bool{true, true, true, false}}, false},
		{api.Contest{Step: 1, Order: [4]bool{true, false, false, false}}, false},
		{api.Contest{Step: 1, Order: [4]bool{true, true, true, true}}, false},
		{api.Contest{Step: 1, Order: uudd, N: -1}, false},
		{api.Contest{Step: 1, Order: uudd, N: least}, false},
		{api.Contest{Step: 1, Order: uudd, N: 5}, false},
		{api.Contest{Step: 1, Order: uudd, N: 5, Got: [4]int{1, 2, 3, 4}}, false},
		{api.Contest{Step: 1, Order: uudd, N: most}, false},
		{api.Contest{Step: 1, Order: uudd, N: 4}, true}, // 0 is a worth, too
		{api.Contest{Step: 1, Order: uudd, N: 4, Got: [4]int{1, 2, 3, 4}}, true},
		{api.Contest{Step: 1, Order: uudd, N: 4, Got: [4]int{least, most, least, most}}, true},
		{api.Contest{Step: 1, Order: uudd, N: 3, Got: [4]int{1, 2, 3, 0}}, true},
		{api.Contest{Step: 1, Order: uudd, N: 3, Got: [4]int{1, 2, 3, 4}}, false},
		{api.Contest{Step: 1, Order: uudd, N: 3, Got: [4]int{0, 0, 0, -1}}, false},
		{api.Contest{Step: 1, Order: uudd, N: 1, Got: [4]int{1, 0, 0, 0}}, true},
		{api.Contest{Step: 1, Order: uudd, N: 1, Got: [4]int{1, 2, 0, 0}}, false},
		{api.Contest{Step: 1, Order: uudd, N: 1, Got: [4]int{1, 0, 3, 0}}, false},
		{api.Contest{Step: 1, Order: uudd, N: 0, Got: [4]int{1, 0, 0, 0}}, false},
		{api.Contest{Step: 1, Order: uudd, N: 0, Got: [4]int{0, 0, 0, 4}}, false},
	} {
		if Is(x.x) != x.want {
			t.Errorf("%+v: not %t", x.x, x.want)
		}
	}
}

func TestIsWordForWord(t *testing.T) { // P18.1
	check := func(x api.Contest) {
		t.Helper()
		if Is(x) != isOf(x) {
			t.Fatalf("%+v: not %t", x, isOf(x))
		}
	}
	for _, ways := range allOrders() {
		for _, n := range edges() {
			for zeros := range 16 {
				x := api.Contest{Base: 5, Step: 3, Order: ways, N: n, Got: [4]int{1, -1, most, least}}
				for i := range 4 {
					x.Got[i] *= zeros >> i & 1
				}
				check(x)
				x.N, x.Step = zeros-5, n
				check(x)
				x.Base, x.Step = n, 7
				check(x)
			}
		}
	}
	r := random(18)
	for range 50000 {
		check(r.loose())
	}
}

func TestNew(t *testing.T) { // P18.1
	three, none := [4]bool{true, true, false, true}, [4]bool{}
	for _, x := range []struct {
		base, step int
		ways       [4]bool
		want       int
		wrong      api.Errno
	}{
		{100000, 2, uddu, 100000, api.OK},
		{100000, 1, dduu, 100000, api.OK},
		{100000, 16, udud, 100000, api.OK},
		{10000, 5, dudu, 10000, api.OK},
		{9999, 5, dudu, 10000, api.OK},
		{0, 5, duud, 10000, api.OK},
		{least, 5, duud, 10000, api.OK},
		{125000000, 5, uudd, 125000000, api.OK},
		{125000001, 5, uudd, 125000000, api.OK},
		{most, 5, uudd, 125000000, api.OK},
		{100000, 0, uddu, 0, api.ErrArg},
		{100000, 17, uddu, 0, api.ErrArg},
		{100000, -2, uddu, 0, api.ErrArg},
		{100000, least, uddu, 0, api.ErrArg},
		{100000, most, uddu, 0, api.ErrArg},
		{100000, 0, three, 0, api.ErrArg}, // the step's error comes first
		{100000, 17, none, 0, api.ErrArg},
		{100000, 1, three, 0, api.ErrForm},
		{100000, 16, none, 0, api.ErrForm},
		{100000, 2, [4]bool{true, true, true, true}, 0, api.ErrForm},
		{100000, 2, [4]bool{false, false, true, false}, 0, api.ErrForm},
	} {
		want := api.Contest{Base: x.want, Step: x.step, Order: x.ways}
		if x.wrong != api.OK {
			want = api.Contest{}
		}
		if n, wrong := New(config.Usual(api.Vivace), x.base, x.step, x.ways); n != want || wrong != x.wrong {
			t.Errorf("%+v: %+v, %d", x, n, wrong)
		}
	}
}

func TestNewWordForWord(t *testing.T) { // P18.1
	for _, c := range bounds() {
		for _, ways := range allOrders() {
			for _, n := range edges() {
				x, wrong := New(c, n, 3, ways)
				if want := (api.Contest{Base: boundOf(c, n), Step: 3, Order: ways}); isOf(want) != (wrong == api.OK) || wrong == api.OK && x != want || wrong != api.OK && (wrong != api.ErrForm || x != api.Contest{}) {
					t.Fatalf("%+v, %d, %v: %+v, %d", c, n, ways, x, wrong)
				}
				x, wrong = New(c, 5, n, ways)
				if in := n >= 1 && n <= 16; in == (wrong == api.ErrArg) || isOf(x) != (wrong == api.OK) || wrong != api.OK && x != (api.Contest{}) {
					t.Fatalf("%+v, %d, %v: %+v, %d", c, n, ways, x, wrong)
				}
			}
		}
	}
}

func TestTell(t *testing.T) { // P18.1
	x := api.Contest{Base: 7, Step: 3, Order: duud}
	for i, worth := range []int{most, 0, least, -1} {
		told, wrong := Tell(x, worth)
		want := x
		want.Got[i], want.N = worth, i+1
		if told != want || wrong != api.OK {
			t.Errorf("%d: %+v, %d", worth, told, wrong)
		}
		x = told
	}
	if told, wrong := Tell(x, 1); told != (api.Contest{}) || wrong != api.ErrFull {
		t.Errorf("%+v, %d", told, wrong)
	}
}

func TestTellWhatIsWrong(t *testing.T) { // P18.1
	whole := api.Contest{Base: 7, Step: 3, Order: duud, N: 4, Got: [4]int{1, 2, 3, 4}}
	for i, spoil := range []func(x *api.Contest){
		func(x *api.Contest) { x.Step = 0 },
		func(x *api.Contest) { x.Step = 17 }, // it is wrong ahead of being full
		func(x *api.Contest) { x.Order = [4]bool{true} },
		func(x *api.Contest) { x.Order = [4]bool{true, true, false, true} },
		func(x *api.Contest) { x.N = 5 },
		func(x *api.Contest) { x.N = most },
		func(x *api.Contest) { x.N = -1 },
		func(x *api.Contest) { x.N = least },
		func(x *api.Contest) { x.N = 3 },
		func(x *api.Contest) { x.N = 0 },
		func(x *api.Contest) { x.N, x.Got[3], x.Got[2] = 2, 0, -1 },
	} {
		x := whole
		spoil(&x)
		if told, wrong := Tell(x, 1); told != (api.Contest{}) || wrong != api.ErrArg {
			t.Errorf("%d: %+v, %d", i, told, wrong)
		}
	}
}

func TestTellWordForWord(t *testing.T) { // P18.1
	r := random(19)
	for range 50000 {
		x, worth := r.loose(), r.any()
		told, wrong := Tell(x, worth)
		var want api.Contest
		var why api.Errno
		switch {
		case !isOf(x):
			why = api.ErrArg
		case x.N == 4:
			why = api.ErrFull
		default:
			want = x
			want.N++
			want.Got[x.N] = worth
		}
		if told != want || wrong != why {
			t.Fatalf("%+v, %d: %+v, %d", x, worth, told, wrong)
		}
	}
}

func TestSteps(t *testing.T) { // P18.2
	// Of 100000 a part of 10486 is hardly above 1000.
	for _, x := range []struct{ rate, steps, up, down int }{
		{100000, 1, 101000, 99000},
		{100000, 2, 102000, 98000},
		{100000, 5, 105000, 95000},
		{100000, 16, 116000, 84000},
		{100000, 0, 100000, 100000},
		{100000, -1, 100000, 100000}, // a part is not below 0
		{100000, least, 100000, 100000},
		{100000, 50, 150001, 49999},
		{100000, 99, 199002, 10000},
		{100000, 100, 200000, 10000}, // nor above 1: 100 times 10486 are 1048600
		{100000, most, 200000, 10000},
		{10000, 1, 10100, 10000},
		{5, 1, 10100, 10000}, // it is bounded ahead of the step
		{least, 1, 10100, 10000},
		{10101, 1, 10202, 10000},
		{10102, 1, 10203, 10001},
		{125000000, 1, 125000000, 123749971},
		{most, 1, 125000000, 123749971},
		{124000000, 1, 125000000, 122759972},
		{50001, 1, 50501, 49501},
	} {
		c := config.Usual(api.Vivace)
		if up, down := Move(c, x.rate, x.steps, 1), Move(c, x.rate, x.steps, -1); up != x.up || down != x.down {
			t.Errorf("%+v: %d, %d", x, up, down)
		}
		if l := Rates(c, api.Contest{Base: x.rate, Step: x.steps, Order: dudu}); l != [4]int{x.down, x.up, x.down, x.up} {
			t.Errorf("%+v: %v", x, l)
		}
	}
}

func TestSides(t *testing.T) { // P18.2
	c := config.Usual(api.Allegro)
	for _, x := range []struct{ rate, side, want int }{
		{100000, 1, 102000}, {100000, 2, 102000}, {100000, 7, 102000}, {100000, most, 102000},
		{100000, -1, 98000}, {100000, -2, 98000}, {100000, -7, 98000}, {100000, least, 98000},
		{100000, 0, 100000}, {9999, 0, 10000}, {10001, 0, 10001}, {least, 0, 10000}, {125000001, 0, 125000000}, {most, 0, 125000000},
	} {
		if rate := Move(c, x.rate, 2, x.side); rate != x.want {
			t.Errorf("%+v: %d", x, rate)
		}
	}
	// What rates are too great for a step is not too great to be kept.
	wide := by(least, most, 10486)
	if Move(wide, most, 2, 0) != most || Move(wide, least, 2, 0) != least || Move(wide, most, 0, 1) != top || Move(wide, least, 0, 1) != -top {
		t.Errorf("%d, %d, %d, %d", Move(wide, most, 2, 0), Move(wide, least, 2, 0), Move(wide, most, 0, 1), Move(wide, least, 0, 1))
	}
}

func TestRatesOfAnyOrder(t *testing.T) { // P18.2
	c := config.Usual(api.Allegro)
	for _, ways := range allOrders() {
		var want [4]int
		for i, up := range ways {
			want[i] = 97000
			if up {
				want[i] = 103000
			}
		}
		// Whatever was told, and whether or not it is right.
		for _, x := range []api.Contest{{}, {N: 4, Got: [4]int{1, 2, 3, 4}}, {N: -7, Got: [4]int{0, most, least, 0}}, {N: most}} {
			x.Base, x.Step, x.Order = 100000, 3, ways
			if l := Rates(c, x); l != want {
				t.Errorf("%+v: %v", x, l)
			}
		}
	}
}

func TestStepsWordForWord(t *testing.T) { // P18.2
	check := func(c api.Config, rate, steps int) {
		t.Helper()
		up, down := stepOf(c, rate, steps, true), stepOf(c, rate, steps, false)
		if l := Rates(c, api.Contest{Base: rate, Step: steps, Order: duud}); l != [4]int{down, up, up, down} {
			t.Fatalf("%+v: %d, %d: %v, not %d, %d", c, rate, steps, l, up, down)
		}
		if Move(c, rate, steps, 3) != up || Move(c, rate, steps, -3) != down || Move(c, rate, steps, 0) != boundOf(c, rate) {
			t.Fatalf("%+v: %d, %d: %d, %d", c, rate, steps, Move(c, rate, steps, 3), Move(c, rate, steps, -3))
		}
	}
	for _, c := range bounds() {
		for _, rate := range edges() {
			for _, steps := range []int{least, least + 1, -top, -1, 0, 1, 2, 7, 15, 16, 17, 99, 100, 1 << 20, top, most} {
				check(c, rate, steps)
			}
		}
	}
	r := random(20)
	for range 20000 {
		check(r.right(), r.below(1200000000)>>r.below(20), 1+r.below(16))
		check(r.strange(), r.any(), r.any())
		check(r.strange(), r.any(), r.below(20))
	}
}

func TestNothingElseCountsToRates(t *testing.T) { // P18.1, P18.2
	other := api.Config{Mode: 9, StartRate: 3, Packet: 1, Burst: 2, Ring: 3, MiMin: 4, MiMax: 5, Timeout: 6, Steps: 8, Omega: 9, Widen: 10, Gain: 11, Knee: 12, Slope: 13, Power: 14, Lag: 15, Loss: 16, Jitter: 17, Cut: 18}
	r := random(21)
	for range 10000 {
		c, x, side := r.right(), r.loose(), r.near()
		other.MinRate, other.MaxRate, other.Eps = c.MinRate, c.MaxRate, c.Eps
		begun, _ := New(c, x.Base, x.Step, x.Order)
		if again, _ := New(other, x.Base, x.Step, x.Order); begun != again || Rates(c, x) != Rates(other, x) || Move(c, x.Base, x.Step, side) != Move(other, x.Base, x.Step, side) {
			t.Fatalf("%+v, %+v", c, x)
		}
	}
}

func TestSide(t *testing.T) { // P18.3
	for _, x := range []struct {
		ways [4]bool
		got  [4]int
		want int
	}{
		{uddu, [4]int{5, 1, 2, 4}, 1},
		{uddu, [4]int{1, 5, 4, 2}, -1},
		{uddu, [4]int{5, 5, 2, 4}, 0}, // the same is neither more nor less
		{uddu, [4]int{5, 1, 4, 4}, 0},
		{uddu, [4]int{1, 1, 4, 2}, 0},
		{uddu, [4]int{1, 5, 2, 2}, 0},
		{uddu, [4]int{5, 1, 4, 2}, 0}, // one pair for each side
		{uddu, [4]int{1, 5, 2, 4}, 0},
		{uddu, [4]int{100, 1, 4, 2}, 0}, // by how much counts for nothing
		{uddu, [4]int{5, 4, 1, 2}, 1},
		{uddu, [4]int{2, 1, 5, 9}, 1},
		{uudd, [4]int{5, 2, 1, 4}, 0}, // the first two make a pair, and the second two
		{uudd, [4]int{5, 4, 1, 2}, 1},
		{uudd, [4]int{5, 3, 4, 2}, 1},
		{uudd, [4]int{3, 5, 4, 2}, 0},
		{udud, [4]int{5, 4, 2, 1}, 1},
		{udud, [4]int{5, 4, 1, 2}, 0},
		{duud, [4]int{1, 2, 5, 4}, 1},
		{duud, [4]int{2, 5, 4, 4}, 0},
		{duud, [4]int{9, 8, 1, 2}, -1},
		{dudu, [4]int{1, 2, 8, 9}, 1},
		{dudu, [4]int{2, 1, 9, 8}, -1},
		{dduu, [4]int{1, 4, 2, 5}, 1},
		{dduu, [4]int{2, 5, 1, 4}, -1},
		{dduu, [4]int{1, 4, 4, 1}, 0},
		{uddu, [4]int{}, 0},
		{uddu, [4]int{1, 0, 0, 1}, 1},
		{uddu, [4]int{0, -1, -1, 0}, 1},
		{uddu, [4]int{-1, 0, 0, -1}, -1},
		{uddu, [4]int{most, least, least, most}, 1}, // farther apart than any int is great
		{uddu, [4]int{least, most, most, least}, -1},
		{uddu, [4]int{most, most - 1, least, least + 1}, 1},
		{uddu, [4]int{most, least, most, least}, 0},
	} {
		y := api.Contest{Base: 5, Step: 2, Order: x.ways, N: 4, Got: x.got}
		if side := Side(y); side != x.want {
			t.Errorf("%+v: %d", x, side)
		}
	}
}

func TestSideOfWhatIsNotWhole(t *testing.T) { // P18.3
	whole := api.Contest{Base: 7, Step: 3, Order: uddu, N: 4, Got: [4]int{5, 1, 2, 4}}
	if Side(whole) != 1 {
		t.Fatalf("%d", Side(whole))
	}
	for i, spoil := range []func(x *api.Contest){
		func(x *api.Contest) { x.Step = 0 },
		func(x *api.Contest) { x.Step = 17 },
		func(x *api.Contest) { x.Order[1] = true },
		func(x *api.Contest) { x.Order[0] = false },
		func(x *api.Contest) { x.Order = [4]bool{} },
		func(x *api.Contest) { x.Order = [4]bool{true, true, true, true} },
		func(x *api.Contest) { x.N = 5 },
		func(x *api.Contest) { x.N = most },
		func(x *api.Contest) { x.N = -1 },
		func(x *api.Contest) { x.N = least },
		func(x *api.Contest) { x.N = 3 },
		func(x *api.Contest) { x.N, x.Got = 3, [4]int{5, 1, -2, 0} }, // as one that was told 0 at last
		func(x *api.Contest) { x.N, x.Got = 2, [4]int{5, -1} },
		func(x *api.Contest) { *x = api.Contest{} },
	} {
		x := whole
		spoil(&x)
		if side := Side(x); side != 0 {
			t.Errorf("%d: %+v: %d", i, x, side)
		}
	}
}

func TestSideWordForWord(t *testing.T) { // P18.3
	for _, ways := range allOrders() {
		for k := range 256 {
			got := [4]int{k & 3, k >> 2 & 3, k >> 4 & 3, k >> 6 & 3}
			for step := range 2 {
				x := api.Contest{Step: step, Order: ways, N: 4, Got: got}
				if Side(x) != sideOf(x) {
					t.Fatalf("%+v: %d", x, Side(x))
				}
			}
		}
	}
	r := random(22)
	for range 100000 {
		x := r.loose()
		if Side(x) != sideOf(x) {
			t.Fatalf("%+v: %d", x, Side(x))
		}
		x = r.contest(4)
		x.Got = [4]int{r.any(), r.any(), r.any(), r.any()}
		if Side(x) != sideOf(x) {
			t.Fatalf("%+v: %d", x, Side(x))
		}
	}
}

func TestWhatIsTurned(t *testing.T) { // P18.4
	r := random(23)
	sides := map[int]int{}
	for range 20000 {
		x := r.contest(4)
		side := Side(x)
		sides[side]++
		other := x
		other.Order = turned(x.Order)
		if Side(other) != -side {
			t.Errorf("%+v: %d, %d", x, side, Side(other))
		}
		for i := range other.Got {
			other.Got[i] = -x.Got[i]
		}
		if Side(other) != side {
			t.Errorf("%+v: %d, %d", x, side, Side(other))
		}
		other.Order = x.Order
		if Side(other) != -side {
			t.Errorf("%+v: %d, %d", x, side, Side(other))
		}
	}
	if sides[1] < 1000 || sides[-1] < 1000 || sides[0] < 1000 {
		t.Errorf("%v", sides)
	}
}

// sideBy is the side of a contest by what its rates are worth.
func sideBy(t *testing.T, c api.Config, x api.Contest, worth func(rate int) int) int {
	t.Helper()
	for _, rate := range Rates(c, x) {
		told, wrong := Tell(x, worth(rate))
		if wrong != api.OK || Side(x) != 0 {
			t.Fatalf("%+v: %d", x, wrong)
		}
		x = told
	}
	return Side(x)
}

func TestWhatTheGreaterRateIsWorth(t *testing.T) { // P18.4
	r := random(24)
	apart := 0
	for range 20000 {
		c := r.right()
		if wrong := config.Check(c); wrong != api.OK {
			t.Fatalf("%+v: %d", c, wrong)
		}
		x, wrong := New(c, r.below(1200000000)>>r.below(25), 1+r.below(16), r.ways())
		if wrong != api.OK {
			t.Fatalf("%+v: %d", x, wrong)
		}
		l := Rates(c, x)
		want := 0
		// Rates that are rounded, or bounded, to the same one tell nothing.
		if slices.Max(l[:]) > slices.Min(l[:]) {
			want = 1
			apart++
		}
		up := sideBy(t, c, x, func(rate int) int { return rate*3 - 1000000000 })
		down := sideBy(t, c, x, func(rate int) int { return 7 - rate })
		flat := sideBy(t, c, x, func(rate int) int { return -5 })
		if up != want || down != -want || flat != 0 {
			t.Fatalf("%+v, %+v, %v: %d, %d, %d", c, x, l, up, down, flat)
		}
	}
	if apart < 10000 {
		t.Errorf("%d", apart)
	}
}

func TestRatesAboutTheBase(t *testing.T) { // P18.4
	r := random(25)
	for range 20000 {
		c := r.right()
		x, wrong := New(c, r.any(), 1+r.below(16), r.ways())
		if wrong != api.OK {
			t.Fatalf("%+v: %d", x, wrong)
		}
		for i, rate := range Rates(c, x) {
			if x.Order[i] && rate < x.Base || !x.Order[i] && rate > x.Base || rate < c.MinRate || rate > c.MaxRate {
				t.Fatalf("%+v, %+v: %v", c, x, Rates(c, x))
			}
			side := -1
			if x.Order[i] {
				side = 1
			}
			if Move(c, x.Base, x.Step, side) != rate {
				t.Fatalf("%+v, %+v: %d, %d", c, x, rate, Move(c, x.Base, x.Step, side))
			}
		}
	}
}
