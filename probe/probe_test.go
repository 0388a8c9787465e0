package probe

import (
	"math"
	"math/big"
	"slices"
	"testing"

	"pacemaker/api"
	"pacemaker/config"
	"pacemaker/fix"
	"pacemaker/stats"
)

const (
	one   = api.One
	top   = 4611686018427387904
	most  = math.MaxInt
	least = math.MinInt
)

// Just one that goes up, in both orders, and all others.
var (
	ud = [2]bool{true, false}
	du = [2]bool{false, true}
	uu = [2]bool{true, true}
	dd = [2]bool{false, false}
)

func bigOf(n int) *big.Int { return big.NewInt(int64(n)) }

func allOrders() [][2]bool { return [][2]bool{ud, du, uu, dd} }

func turned(ways [2]bool) [2]bool { return [2]bool{!ways[0], !ways[1]} }

func changed(got [2]int) [2]int { return [2]int{got[1], got[0]} }

// isOf is what the chapter calls right, word for word.
func isOf(x api.Probe) bool {
	ups := 0
	for _, up := range x.Order {
		if up {
			ups++
		}
	}
	if ups != 1 || x.N < 0 || x.N > 2 {
		return false
	}
	for i := x.N; i < 2; i++ {
		if x.Got[i] != 0 {
			return false
		}
	}
	return true
}

// boundOf is layer 8's.
func boundOf(c api.Config, rate int) int {
	switch {
	case rate < c.MinRate:
		return c.MinRate
	case rate > c.MaxRate:
		return c.MaxRate
	}
	return rate
}

// fixedOf is the fixed number that is nearest to n.
func fixedOf(n *big.Int) int {
	switch {
	case n.Cmp(bigOf(top)) > 0:
		return top
	case n.Cmp(bigOf(-top)) < 0:
		return -top
	}
	return int(n.Int64())
}

// clampOf is the fixed number that is nearest to n.
func clampOf(n int) int { return fixedOf(bigOf(n)) }

// subOf is layer 2's.
func subOf(a, b int) int { return fixedOf(new(big.Int).Sub(bigOf(clampOf(a)), bigOf(clampOf(b)))) }

// scaleOf is layer 2's.
func scaleOf(a, n, d int) int {
	product := new(big.Int).Mul(bigOf(clampOf(a)), bigOf(n))
	if d == 0 {
		return product.Sign() * top
	}
	sign := product.Sign() * bigOf(d).Sign()
	// The nearest; of two that are as near the one farther from 0.
	size, by := product.Abs(product), new(big.Int).Abs(bigOf(d))
	size.Lsh(size, 1).Add(size, by).Div(size, by.Lsh(by, 1))
	return fixedOf(size.Mul(size, bigOf(sign)))
}

// quoOf is layer 2's.
func quoOf(a, b int) int { return scaleOf(a, one, clampOf(b)) }

// unitsOf is layer 13's.
func unitsOf(rate int) int { return scaleOf(rate, one, 1000) }

// stepOf is layer 8's step of a rate by Eps.
func stepOf(c api.Config, rate int, up bool) int {
	part := max(min(c.Eps, one), 0)
	if !up {
		part = -part
	}
	return boundOf(c, scaleOf(boundOf(c, rate), one+part, one))
}

// gradeOf is P19.2 word for word.
func gradeOf(c api.Config, x api.Probe) int {
	up, down := stepOf(c, x.Base, true), stepOf(c, x.Base, false)
	if !isOf(x) || x.N != 2 || up <= down {
		return 0
	}
	more := subOf(x.Got[0], x.Got[1])
	if x.Order == du {
		more = subOf(x.Got[1], x.Got[0])
	}
	return quoOf(more, unitsOf(subOf(up, down)))
}

// by is a usual config, but with these rates and this part.
func by(low, high, eps int) api.Config {
	c := config.Usual(api.Vivace)
	c.MinRate, c.MaxRate, c.Eps = low, high, eps
	return c
}

// bounds are right configs, and others, whose least and greatest rates are far apart, near, the same, in the wrong order, and at all ends, and whose parts are, too.
func bounds() []api.Config {
	var l []api.Config
	for _, x := range [][3]int{
		{10000, 125000000, 10486}, {1000, 1000000000, 1}, {1000, 1000000000, 262144}, {50000, 50000, 10486}, {10001, 10002, 524288}, {20000, 10000, 10486}, {0, 0, 10486}, {0, 100, 1048575}, {1, 100, 1048576}, {-5, 5, 1048577}, {-1000, -10, 10486},
		{5, -5, 10486}, {least, most, 10486}, {most, least, 10486}, {least, least, 1}, {most, most, 1}, {0, most, 1}, {1, most, 0}, {1, most, -1}, {least, most, least}, {least, most, most}, {-top - 1, top + 1, top}, {-top, top, -top - 1}, {1, top / 2, 65536}, {top + 1, top + 5, 9}, {0, least, one},
	} {
		l = append(l, by(x[0], x[1], x[2]))
	}
	return l
}

// edges are 0, the ends of all kinds, what is beside them, and some others.
func edges() []int {
	l := []int{least, least + 1, most - 1, most}
	for _, n := range []int{0, 3, 8, 16, 100, 1000, 10000, 50000, 1048576, 125000000, 1000000000, 1 << 40, top / 2, top} {
		for beside := -1; beside <= 1; beside++ {
			l = append(l, n+beside, -n+beside)
		}
	}
	slices.Sort(l)
	return slices.Compact(l)
}

// random makes the same numbers at each run.
type random uint64

func (r *random) below(n int) int {
	*r = *r*6364136223846793005 + 1442695040888963407
	return int(uint64(*r)>>33) % n
}

// size is any int that is not below 0, small or great.
func (r *random) size() int {
	return (r.below(1<<31)<<32 | r.below(1<<31)<<1 | r.below(2)) >> r.below(63)
}

// any is any int, small or great, of both signs.
func (r *random) any() int {
	n := r.size()
	if r.below(2) == 0 {
		return ^n
	}
	return n
}

// right is a right config.
func (r *random) right() api.Config {
	c := config.Usual(1 + r.below(5))
	c.MinRate = 1000 + r.below(1000000000-999)>>r.below(30)
	c.MaxRate = c.MinRate + r.below(1000000001-c.MinRate)>>r.below(30)
	c.StartRate = c.MinRate
	c.Steps = 1 + r.below(16)
	c.Eps = 1 + r.below(min(262144, 524288/c.Steps))>>r.below(18)
	return c
}

// strange is any config, right or not.
func (r *random) strange() api.Config { return by(r.any(), r.any(), r.any()) }

// rate is one that senders have, most often one that a right config allows.
func (r *random) rate() int { return r.below(1200000000) >> r.below(22) }

func (r *random) ways() [2]bool { return allOrders()[r.below(2)] }

// probe is a right probe, told so many times.
func (r *random) probe(n int) api.Probe {
	x := api.Probe{Base: r.rate(), Order: r.ways(), N: n}
	for i := range n {
		x.Got[i] = r.any()
	}
	return x
}

// loose is a probe that may be wrong in any way.
func (r *random) loose() api.Probe {
	x := r.probe(r.below(3))
	switch r.below(6) {
	case 0:
		x.Order = allOrders()[r.below(4)]
	case 1:
		x.N = r.any()
	case 2:
		x.N = r.below(6) - 2
	case 3:
		x.Got[r.below(2)] = r.any()
	case 4:
		x.Base = r.any()
	}
	return x
}

func TestTheChaptersExamples(t *testing.T) { // P19.1, P19.2
	c := config.Usual(api.Vivace)
	x, wrong := New(c, 100000, ud)
	if l := Rates(c, x); l != [2]int{101000, 99000} || wrong != api.OK {
		t.Errorf("%v, %d", l, wrong)
	}
	for _, worth := range []int{4194304, 2097152} {
		if grade := Grade(c, x); grade != 0 {
			t.Errorf("%+v: %d", x, grade)
		}
		if x, wrong = Tell(x, worth); wrong != api.OK {
			t.Errorf("%d: %d", worth, wrong)
		}
	}
	if grade := Grade(c, x); grade != 1048576 || Side(grade) != 1 {
		t.Errorf("%+v: %d, %d", x, grade, Side(grade))
	}
}

func TestIs(t *testing.T) { // P19.1
	for _, x := range []struct {
		x    api.Probe
		want bool
	}{
		{api.Probe{}, false},
		{api.Probe{Order: ud}, true},
		{api.Probe{Order: du}, true},
		{api.Probe{Order: uu}, false},
		{api.Probe{Order: uu, N: 2, Got: [2]int{1, 2}}, false},
		{api.Probe{Order: dd, N: 2, Got: [2]int{1, 2}}, false},
		{api.Probe{Order: ud, Base: least}, true}, // whatever the base is
		{api.Probe{Order: ud, Base: most}, true},
		{api.Probe{Order: ud, N: -1}, false},
		{api.Probe{Order: ud, N: least}, false},
		{api.Probe{Order: ud, N: 3}, false},
		{api.Probe{Order: ud, N: 3, Got: [2]int{1, 2}}, false},
		{api.Probe{Order: ud, N: most}, false},
		{api.Probe{Order: ud, N: 2}, true}, // 0 is a worth, too
		{api.Probe{Order: ud, N: 1}, true},
		{api.Probe{Order: du, N: 2, Got: [2]int{1, 2}}, true},
		{api.Probe{Order: du, N: 2, Got: [2]int{least, most}}, true},
		{api.Probe{Order: ud, N: 1, Got: [2]int{1, 0}}, true},
		{api.Probe{Order: ud, N: 1, Got: [2]int{1, 2}}, false},
		{api.Probe{Order: ud, N: 1, Got: [2]int{0, -1}}, false},
		{api.Probe{Order: ud, N: 0, Got: [2]int{1, 0}}, false},
		{api.Probe{Order: ud, N: 0, Got: [2]int{0, 1}}, false},
		{api.Probe{Order: ud, N: 0, Got: [2]int{least, 0}}, false},
	} {
		if Is(x.x) != x.want {
			t.Errorf("%+v: not %t", x.x, x.want)
		}
	}
}

func TestIsWordForWord(t *testing.T) { // P19.1
	check := func(x api.Probe) {
		t.Helper()
		if Is(x) != isOf(x) {
			t.Fatalf("%+v: not %t", x, isOf(x))
		}
	}
	for _, ways := range allOrders() {
		for _, n := range edges() {
			for _, got := range [][2]int{{0, 0}, {5, 0}, {0, -1}, {most, least}, {n, 0}, {0, n}} {
				check(api.Probe{Base: n, Order: ways, N: n, Got: got})
				for told := -1; told <= 3; told++ {
					check(api.Probe{Base: n, Order: ways, N: told, Got: got})
				}
			}
		}
	}
	r := random(19)
	for range 50000 {
		check(r.loose())
	}
}

func TestNew(t *testing.T) { // P19.1
	for _, x := range []struct {
		base  int
		ways  [2]bool
		want  int
		wrong api.Errno
	}{
		{100000, ud, 100000, api.OK},
		{100000, du, 100000, api.OK},
		{10000, du, 10000, api.OK},
		{9999, du, 10000, api.OK},
		{0, ud, 10000, api.OK},
		{least, ud, 10000, api.OK},
		{125000000, ud, 125000000, api.OK},
		{125000001, ud, 125000000, api.OK},
		{most, du, 125000000, api.OK},
		{100000, uu, 0, api.ErrForm},
		{100000, dd, 0, api.ErrForm},
		{least, uu, 0, api.ErrForm},
		{most, dd, 0, api.ErrForm},
	} {
		want := api.Probe{Base: x.want, Order: x.ways}
		if x.wrong != api.OK {
			want = api.Probe{}
		}
		if n, wrong := New(config.Usual(api.Vivace), x.base, x.ways); n != want || wrong != x.wrong {
			t.Errorf("%+v: %+v, %d", x, n, wrong)
		}
	}
}

func TestNewWordForWord(t *testing.T) { // P19.1
	for _, c := range bounds() {
		for _, base := range edges() {
			for _, ways := range allOrders() {
				want, why := api.Probe{Base: boundOf(c, base), Order: ways}, api.OK
				if !isOf(want) {
					want, why = api.Probe{}, api.ErrForm
				}
				if x, wrong := New(c, base, ways); x != want || wrong != why {
					t.Fatalf("%+v, %d, %v: %+v, %d", c, base, ways, x, wrong)
				}
			}
		}
	}
}

func TestTell(t *testing.T) { // P19.1
	for _, worths := range [][2]int{{5, 7}, {0, 0}, {0, 3}, {most, least}, {least, most}, {-1, 1}} {
		x := api.Probe{Base: 7, Order: du}
		for i, worth := range worths {
			told, wrong := Tell(x, worth)
			want := x
			want.Got[i], want.N = worth, i+1
			if told != want || wrong != api.OK {
				t.Errorf("%v: %+v, %d", worths, told, wrong)
			}
			x = told
		}
		if told, wrong := Tell(x, 1); told != (api.Probe{}) || wrong != api.ErrFull {
			t.Errorf("%v: %+v, %d", worths, told, wrong)
		}
	}
}

func TestTellWhatIsWrong(t *testing.T) { // P19.1
	whole := api.Probe{Base: 7, Order: ud, N: 2, Got: [2]int{1, 2}}
	for i, spoil := range []func(x *api.Probe){
		func(x *api.Probe) { x.Order = uu }, // it is wrong ahead of being full
		func(x *api.Probe) { x.Order = dd },
		func(x *api.Probe) { x.N = 3 },
		func(x *api.Probe) { x.N = most },
		func(x *api.Probe) { x.N = -1 },
		func(x *api.Probe) { x.N = least },
		func(x *api.Probe) { x.N = 1 },
		func(x *api.Probe) { x.N = 0 },
		func(x *api.Probe) { x.N, x.Got = 0, [2]int{0, -1} },
		func(x *api.Probe) { *x = api.Probe{} },
	} {
		x := whole
		spoil(&x)
		if told, wrong := Tell(x, 1); told != (api.Probe{}) || wrong != api.ErrArg {
			t.Errorf("%d: %+v, %d", i, told, wrong)
		}
	}
}

func TestTellWordForWord(t *testing.T) { // P19.1
	r := random(20)
	for range 50000 {
		x, worth := r.loose(), r.any()
		told, wrong := Tell(x, worth)
		var want api.Probe
		var why api.Errno
		switch {
		case !isOf(x):
			why = api.ErrArg
		case x.N == 2:
			why = api.ErrFull
		default:
			want = x
			want.N++
			want.Got[x.N] = worth
		}
		if told != want || wrong != why {
			t.Fatalf("%+v, %d: %+v, %d", x, worth, told, wrong)
		}
	}
}

func TestRates(t *testing.T) { // P19.1
	// Of 100000 a part of 10486 is hardly above 1000.
	for _, x := range []struct{ base, up, down int }{
		{100000, 101000, 99000},
		{10000, 10100, 10000},
		{5, 10100, 10000}, // it is bounded ahead of the step
		{least, 10100, 10000},
		{10101, 10202, 10000},
		{10102, 10203, 10001},
		{50001, 50501, 49501},
		{124000000, 125000000, 122759972},
		{125000000, 125000000, 123749971},
		{most, 125000000, 123749971},
	} {
		for _, ways := range allOrders() {
			var want [2]int
			for i, up := range ways {
				want[i] = x.down
				if up {
					want[i] = x.up
				}
			}
			// Whatever was told, and whether or not it is right.
			for _, told := range []api.Probe{{}, {N: 2, Got: [2]int{1, 2}}, {N: -7, Got: [2]int{0, most}}, {N: most}} {
				told.Base, told.Order = x.base, ways
				if l := Rates(config.Usual(api.Vivace), told); l != want {
					t.Errorf("%+v: %v", told, l)
				}
			}
		}
	}
}

func TestRatesByParts(t *testing.T) { // P19.1
	for _, x := range []struct{ eps, up, down int }{
		{1, 100000, 100000},
		{10, 100001, 99999},
		{524288, 150000, 50000},
		{1048575, 200000, 10000},
		{1048576, 200000, 10000},
		{1048577, 200000, 10000}, // a part is not above 1
		{most, 200000, 10000},
		{0, 100000, 100000},
		{-1, 100000, 100000}, // nor below 0
		{least, 100000, 100000},
	} {
		if l := Rates(by(10000, 125000000, x.eps), api.Probe{Base: 100000, Order: du}); l != [2]int{x.down, x.up} {
			t.Errorf("%+v: %v", x, l)
		}
	}
}

func TestRatesWordForWord(t *testing.T) { // P19.1
	check := func(c api.Config, base int) {
		t.Helper()
		up, down := stepOf(c, base, true), stepOf(c, base, false)
		for _, ways := range allOrders() {
			var want [2]int
			for i, goesUp := range ways {
				want[i] = down
				if goesUp {
					want[i] = up
				}
			}
			if l := Rates(c, api.Probe{Base: base, Order: ways}); l != want {
				t.Fatalf("%+v: %d, %v: %v, not %v", c, base, ways, l, want)
			}
		}
	}
	for _, c := range bounds() {
		for _, base := range edges() {
			check(c, base)
		}
	}
	r := random(21)
	for range 10000 {
		check(r.right(), r.rate())
		check(r.strange(), r.any())
	}
}

func TestGrade(t *testing.T) { // P19.2
	for _, x := range []struct {
		base int
		ways [2]bool
		got  [2]int
		want int
	}{
		// From 99000 to 101000 there are two units.
		{100000, ud, [2]int{4 * one, 2 * one}, one},
		{100000, du, [2]int{4 * one, 2 * one}, -one},
		{100000, ud, [2]int{2 * one, 4 * one}, -one},
		{100000, du, [2]int{2 * one, 4 * one}, one},
		{100000, ud, [2]int{7, 7}, 0},
		{100000, ud, [2]int{0, 0}, 0},
		{100000, ud, [2]int{-one, -3 * one}, one},
		{100000, ud, [2]int{one, -one}, one},
		{100000, ud, [2]int{1, 0}, 1}, // of two that are as near the one farther from 0
		{100000, ud, [2]int{0, 1}, -1},
		{100000, ud, [2]int{3, 0}, 2},
		{100000, du, [2]int{3, 0}, -2},
		{100000, ud, [2]int{top, -top}, top / 2}, // no more than Top is told to be between them
		{100000, ud, [2]int{most, least}, top / 2},
		{100000, ud, [2]int{least, most}, -top / 2},
		{100000, ud, [2]int{most, top}, 0}, // both are worth Top
		{100000, ud, [2]int{least, -top}, 0},
		{100000, ud, [2]int{most, top - 2}, 1},
		// From 10000 to 10100, as none is below the least rate, there is the tenth part of one, which is 104858 parts.
		{0, ud, [2]int{104858, 0}, one},
		{least, du, [2]int{104858, 0}, -one},
		{10000, ud, [2]int{top, 0}, top},
		{10000, ud, [2]int{0, top}, -top},
		// From 123749971 to 125000000 there are some 1250, as none is above the greatest one.
		{125000000, ud, [2]int{1250029 * one, 0}, 1000 * one},
		{most, du, [2]int{1250029 * one, 0}, -1000 * one},
	} {
		y := api.Probe{Base: x.base, Order: x.ways, N: 2, Got: x.got}
		if grade := Grade(config.Usual(api.Vivace), y); grade != x.want {
			t.Errorf("%+v: %d", x, grade)
		}
	}
}

func TestGradeOfRatesThatAreNotApart(t *testing.T) { // P19.2
	for _, x := range []struct{ low, high, eps, base, want int }{
		{100000, 100000, 10486, 100000, 0},
		{98000, 100000, 20972, 100000, 4 * one}, // two units, from the bound below to the one above
		{99000, 100000, 10486, 100000, 8 * one},
		{10000, 125000000, 1, 100000, 0}, // both are rounded to the same one
		{10000, 125000000, 5, 100000, 0},
		{10000, 125000000, 6, 100000, 8 * one * one / 2097}, // from 99999 to 100001 there are 2097 parts
		{10000, 125000000, 0, 100000, 0},
		{10000, 125000000, -5, 100000, 0},
		{most, most, 10486, 0, 0},
		{20000, 10000, 10486, 15000, 0},
		{-125000000, -10000, 10486, -100000, 0},          // below 0 the one that goes up is below the other one
		{-5, -15, 786432, 0, (8*one*one + 5243) / 10486}, // and by such bounds from -15 to -5
		{0, least, one, 0, 0},                            // no more than Top is told to be between these
	} {
		c := by(x.low, x.high, x.eps)
		y := api.Probe{Base: x.base, Order: ud, N: 2, Got: [2]int{9 * one, one}}
		if grade := Grade(c, y); grade != x.want {
			t.Errorf("%+v: %v, %d", x, Rates(c, y), grade)
		}
		y.Order = du
		if grade := Grade(c, y); grade != -x.want {
			t.Errorf("%+v: %v, %d", x, Rates(c, y), grade)
		}
	}
}

func TestGradeOfWhatIsNotWhole(t *testing.T) { // P19.2
	c := config.Usual(api.Vivace)
	whole := api.Probe{Base: 100000, Order: ud, N: 2, Got: [2]int{4 * one, 2 * one}}
	if grade := Grade(c, whole); grade != one {
		t.Fatalf("%d", grade)
	}
	for i, spoil := range []func(x *api.Probe){
		func(x *api.Probe) { x.Order = uu },
		func(x *api.Probe) { x.Order = dd },
		func(x *api.Probe) { x.N = 3 },
		func(x *api.Probe) { x.N = most },
		func(x *api.Probe) { x.N = -1 },
		func(x *api.Probe) { x.N = least },
		func(x *api.Probe) { x.N = 1 },
		func(x *api.Probe) { x.N = 0 },
		func(x *api.Probe) { x.N, x.Got = 1, [2]int{4 * one, 0} }, // as one that was told 0 at last
		func(x *api.Probe) { *x = api.Probe{Base: 100000, Order: ud} },
		func(x *api.Probe) { *x = api.Probe{} },
	} {
		x := whole
		spoil(&x)
		if grade := Grade(c, x); grade != 0 {
			t.Errorf("%d: %+v: %d", i, x, grade)
		}
	}
}

func TestGradeWordForWord(t *testing.T) { // P19.2
	check := func(c api.Config, x api.Probe) {
		t.Helper()
		if grade := Grade(c, x); grade != gradeOf(c, x) {
			t.Fatalf("%+v, %+v: %d, not %d", c, x, grade, gradeOf(c, x))
		}
	}
	for _, c := range bounds() {
		for _, n := range edges() {
			for _, ways := range allOrders() {
				for _, got := range [][2]int{{4 * one, 2 * one}, {n, 0}, {0, n}, {n, -5}, {most, n}, {n, least}} {
					check(c, api.Probe{Base: n, Order: ways, N: 2, Got: got})
					check(c, api.Probe{Base: 100000, Order: ways, N: 2, Got: got})
				}
			}
		}
	}
	r := random(22)
	for range 30000 {
		check(r.right(), r.probe(2))
		check(r.strange(), r.probe(2))
		check(r.right(), r.loose())
	}
}

func TestNothingElseCounts(t *testing.T) { // P19.1, P19.2
	other := api.Config{Mode: 9, StartRate: 3, Packet: 1, Burst: 2, Ring: 3, MiMin: 4, MiMax: 5, Timeout: 6, Steps: 8, Omega: 9, Widen: 10, Gain: 11, Knee: 12, Slope: 13, Power: 14, Lag: 15, Loss: 16, Jitter: 17, Cut: 18}
	r := random(23)
	for range 10000 {
		c, x := r.right(), r.probe(2)
		other.MinRate, other.MaxRate, other.Eps = c.MinRate, c.MaxRate, c.Eps
		begun, _ := New(c, x.Base, x.Order)
		if again, _ := New(other, x.Base, x.Order); begun != again || Rates(c, x) != Rates(other, x) || Grade(c, x) != Grade(other, x) {
			t.Fatalf("%+v, %+v", c, x)
		}
	}
}

func TestSide(t *testing.T) { // P19.2
	for _, grade := range edges() {
		want := 0
		if grade > 0 {
			want = 1
		}
		if grade < 0 {
			want = -1
		}
		if side := Side(grade); side != want {
			t.Errorf("%d: %d", grade, side)
		}
	}
}

func TestWhatIsChangedOrTurned(t *testing.T) { // P19.3
	r := random(24)
	sides := map[int]int{}
	check := func(c api.Config, x api.Probe) {
		t.Helper()
		grade := Grade(c, x)
		sides[Side(grade)]++
		other := x
		other.Order, other.Got = turned(x.Order), changed(x.Got)
		if again := Grade(c, other); again != grade {
			t.Fatalf("%+v, %+v: %d, %d", c, x, grade, again)
		}
		other.Order = x.Order
		if again := Grade(c, other); again != -grade || Side(again) != -Side(grade) {
			t.Fatalf("%+v, %+v: %d, %d", c, x, grade, again)
		}
		other = x
		other.Order = turned(x.Order)
		if again := Grade(c, other); again != -grade {
			t.Fatalf("%+v, %+v: %d, %d", c, x, grade, again)
		}
	}
	for range 20000 {
		check(r.right(), r.probe(2))
		check(r.strange(), r.probe(2))
	}
	for _, got := range [][2]int{{most, least}, {least, most}, {least, least}, {top, -top}, {least, 0}, {0, most}} {
		check(config.Usual(api.Vivace), api.Probe{Base: 100000, Order: ud, N: 2, Got: got})
	}
	if sides[1] < 1000 || sides[-1] < 1000 || sides[0] < 1000 {
		t.Errorf("%v", sides)
	}
}

// gradeBy is the grade of a probe by what its rates are worth.
func gradeBy(t *testing.T, c api.Config, x api.Probe, worth func(rate int) int) int {
	t.Helper()
	for _, rate := range Rates(c, x) {
		told, wrong := Tell(x, worth(rate))
		if wrong != api.OK || Grade(c, x) != 0 {
			t.Fatalf("%+v: %d", x, wrong)
		}
		x = told
	}
	return Grade(c, x)
}

func twiceUnits(rate int) int { return 2 * stats.Units(rate) }

func TestTwiceTheUnits(t *testing.T) { // P19.3
	c := config.Usual(api.Vivace)
	for _, base := range []int{10000, 25000, 50000, 100000, 123456, 200000, 999999, 1000000, 31415926, 125000000, most} {
		for _, ways := range [][2]bool{ud, du} {
			x, wrong := New(c, base, ways)
			if wrong != api.OK {
				t.Fatalf("%d: %d", base, wrong)
			}
			up := gradeBy(t, c, x, twiceUnits)
			down := gradeBy(t, c, x, func(rate int) int { return -twiceUnits(rate) })
			flat := gradeBy(t, c, x, func(rate int) int { return 5 * one })
			if up != 2*one || down != -2*one || flat != 0 {
				t.Errorf("%d, %v: %d, %d, %d", base, ways, up, down, flat)
			}
		}
	}
}

// Units are rounded one by one, so those of both rates can be a part farther apart, or nearer, than those of what is between them. Where that is 4001 or more bytes a second, it does not come through to the grade.
func TestTwiceTheUnitsOfAnyRates(t *testing.T) { // P19.3
	r := random(25)
	far, near := 0, 0
	for range 50000 {
		c := r.right()
		if wrong := config.Check(c); wrong != api.OK {
			t.Fatalf("%+v: %d", c, wrong)
		}
		x, wrong := New(c, r.rate(), r.ways())
		if wrong != api.OK {
			t.Fatalf("%+v: %d", x, wrong)
		}
		l := Rates(c, x)
		grade := gradeBy(t, c, x, twiceUnits)
		if slices.Max(l[:]) == slices.Min(l[:]) {
			if grade != 0 {
				t.Fatalf("%+v, %+v: %v, %d", c, x, l, grade)
			}
			continue
		}
		apart := slices.Max(l[:]) - slices.Min(l[:])
		between := stats.Units(slices.Max(l[:])) - stats.Units(slices.Min(l[:]))
		slack := 0
		if apart < 4001 && between != stats.Units(apart) {
			slack = 2*one/stats.Units(apart) + 1
			near++
		} else {
			far++
		}
		if off := fix.Sub(grade, 2*one); off > slack || off < -slack {
			t.Fatalf("%+v, %+v: %v, %d", c, x, l, grade)
		}
	}
	if far < 10000 || near < 1000 {
		t.Errorf("%d, %d", far, near)
	}
}

func TestRatesAboutTheBase(t *testing.T) { // P19.1
	r := random(26)
	for range 20000 {
		c := r.right()
		x, wrong := New(c, r.any(), r.ways())
		if wrong != api.OK {
			t.Fatalf("%+v: %d", x, wrong)
		}
		for i, rate := range Rates(c, x) {
			if x.Order[i] && rate < x.Base || !x.Order[i] && rate > x.Base || rate < c.MinRate || rate > c.MaxRate {
				t.Fatalf("%+v, %+v: %v", c, x, Rates(c, x))
			}
		}
	}
}
