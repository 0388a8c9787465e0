package fence

import (
	"math"
	"math/big"
	"slices"
	"testing"

	"pacemaker/api"
	"pacemaker/config"
)

const (
	one   = 1048576
	half  = 524288
	top   = 4611686018427387904
	most  = math.MaxInt
	least = math.MinInt
)

func bigOf(n int) *big.Int { return big.NewInt(int64(n)) }

// sizeOf is n without its sign.
func sizeOf(n int) *big.Int { return new(big.Int).Abs(bigOf(n)) }

// signOf tells the side of n.
func signOf(n int) int {
	switch {
	case n > 0:
		return 1
	case n < 0:
		return -1
	}
	return 0
}

// fixedOf is layer 2's: the fixed number that is nearest to n.
func fixedOf(n *big.Int) int {
	switch end := bigOf(top); {
	case n.Cmp(end) > 0:
		return top
	case n.CmpAbs(end) > 0:
		return -top
	}
	return int(n.Int64())
}

func clampOf(n int) int { return fixedOf(bigOf(n)) }

// addOf is layer 2's: both together.
func addOf(a, b int) int { return fixedOf(new(big.Int).Add(bigOf(clampOf(a)), bigOf(clampOf(b)))) }

// scaleOf is layer 2's: a times n, by what is above 0, to the nearest; of two that are as near the one farther from 0.
func scaleOf(a, n, d int) int {
	product := new(big.Int).Mul(bigOf(clampOf(a)), bigOf(n))
	sign := bigOf(product.Sign())
	product.Abs(product).Lsh(product, 1).Add(product, bigOf(d)).Quo(product, new(big.Int).Lsh(bigOf(d), 1))
	return fixedOf(product.Mul(product, sign))
}

// boundOf is layer 8's Bound.
func boundOf(c api.Config, rate int) int {
	switch {
	case rate < c.MinRate:
		return c.MinRate
	case rate > c.MaxRate:
		return c.MaxRate
	}
	return rate
}

// limitOf is P21.1 word for word.
func limitOf(c api.Config, k int) int {
	if k < 0 {
		k = 0
	}
	part := addOf(c.Omega, scaleOf(c.Widen, k, 1))
	switch {
	case part > 524288:
		return 524288
	case part < 0:
		return 0
	}
	return part
}

// mostOf is P21.1 word for word.
func mostOf(c api.Config, k, rate int) int { return scaleOf(boundOf(c, rate), limitOf(c, k), 1048576) }

// cutOf is P21.2 word for word.
func cutOf(c api.Config, k, rate, change int) (int, int) {
	may := mostOf(c, k, rate)
	if may < 0 {
		may = 0
	}
	switch {
	case sizeOf(change).Cmp(bigOf(may)) <= 0:
		return change, 0
	case k < 0 || k == most:
		return signOf(change) * may, 1
	}
	return signOf(change) * may, k + 1
}

// moveOf is P21.3 word for word.
func moveOf(c api.Config, k, rate, change int) (int, int) {
	cut, next := cutOf(c, k, rate, change)
	return boundOf(c, addOf(boundOf(c, rate), cut)), next
}

func usual() api.Config { return config.Usual(api.Vivace) }

// parts is a usual config, but with these parts of a rate.
func parts(omega, widen int) api.Config {
	c := usual()
	c.Omega, c.Widen = omega, widen
	return c
}

// rates is a usual config, but with these bounds, and this part of a rate that never grows.
func rates(low, high, omega int) api.Config {
	c := parts(omega, 0)
	c.MinRate, c.MaxRate = low, high
	return c
}

// edges are 0, the ends of all kinds, what is beside them, and some others.
func edges() []int {
	l := []int{least, least + 1, most - 1, most}
	for _, n := range []int{0, 9, 500, 5000, 10000, 52429, half, one, 125000000, 1000000000, 1 << 40, top / half, top / 2, top} {
		for beside := -1; beside <= 1; beside++ {
			l = append(l, n+beside, -n+beside)
		}
	}
	slices.Sort(l)
	return slices.Compact(l)
}

// some are fewer of the edges, for calls of several numbers.
func some() []int {
	return []int{least, -top - 1, -top, -half, -1, 0, 1, 500, 501, 5000, 52429, half, half + 1, one, top / 2, top - 1, top, top + 1, most - 1, most}
}

// configs are right ones, and others, whose parts and bounds are small, great, the same, in the wrong order, and at all ends.
func configs() []api.Config {
	l := []api.Config{usual()}
	for _, x := range [][2]int{{1, 0}, {1, 1}, {half, half}, {half, 0}, {0, 0}, {-9, -7}, {-1, 1}, {52429, -5000}, {-top, top}, {least, most}, {most, least}} {
		l = append(l, parts(x[0], x[1]))
	}
	for _, x := range [][2]int{{1000, 1000000000}, {50000, 50000}, {20000, 10000}, {0, 0}, {-5, 5}, {-100001, -1}, {least, most}, {most, least}, {top - 1, top + 1}, {0, most}, {-top - 1, 0}, {least, least}, {most, most}} {
		l = append(l, rates(x[0], x[1], 52429), rates(x[0], x[1], half), rates(x[0], x[1], 0))
	}
	return l
}

// random makes the same numbers at each run.
type random uint64

func (r *random) below(n int) int {
	*r = *r*6364136223846793005 + 1442695040888963407
	return int(uint64(*r)>>33) % n
}

// size is any int that is not below 0, small or great.
func (r *random) size() int {
	return (r.below(1<<31)<<32 | r.below(1<<31)<<1 | r.below(2)) >> r.below(63)
}

// any is any int, small or great, of both signs.
func (r *random) any() int {
	n := r.size()
	if r.below(2) == 0 {
		return ^n
	}
	return n
}

// times is how often a fence was met: often enough, and more.
func (r *random) times() int {
	if r.below(8) == 0 {
		return r.any()
	}
	return r.below(12)
}

// rate is one within the bounds of many configs, or a bit above.
func (r *random) rate() int { return r.below(1200000000) >> r.below(22) }

// right is a right config with any bounds and parts.
func (r *random) right() api.Config {
	c := parts(1+r.below(half)>>r.below(19), r.below(half+1)>>r.below(20))
	c.MinRate = 1000 + r.below(999999001)>>r.below(20)
	c.MaxRate = c.MinRate + r.below(1000000001-c.MinRate)>>r.below(12)
	c.StartRate = c.MinRate
	return c
}

// strange is a config that need not be right.
func (r *random) strange() api.Config {
	c := r.right()
	switch r.below(3) {
	case 0:
		c.Omega, c.Widen = r.any(), r.any()
	case 1:
		c.MinRate, c.MaxRate = r.any(), r.any()
	case 2:
		c.Omega, c.Widen, c.MinRate, c.MaxRate = r.any(), r.any(), r.any(), r.any()
	}
	return c
}

// change is any, or one about what a rate may be changed by.
func (r *random) change(c api.Config, k, rate int) int {
	switch may := mostOf(c, k, rate); r.below(3) {
	case 0:
		return may + r.below(3) - 1
	case 1:
		return -may + r.below(3) - 1
	}
	return r.any()
}

func TestTheChaptersExamples(t *testing.T) { // P21.1, P21.3
	c := usual()
	if l := [3]int{Limit(c, 0), Limit(c, 1), Limit(c, 20)}; l != [3]int{52429, 104858, 524288} {
		t.Errorf("%v", l)
	}
	if rate, k := Move(c, 0, 100000, 10000); rate != 105000 || k != 1 {
		t.Errorf("%d, %d", rate, k)
	}
	if rate, k := Move(c, 1, 100000, 10000); rate != 110000 || k != 0 {
		t.Errorf("%d, %d", rate, k)
	}
}

func TestLimit(t *testing.T) { // P21.1
	for _, x := range []struct{ omega, widen, k, want int }{
		{52429, 52429, 0, 52429},
		{52429, 52429, 1, 104858},
		{52429, 52429, 2, 157287},
		{52429, 52429, 8, 471861},
		{52429, 52429, 9, 524288}, // a half at most
		{52429, 52429, 10, 524288},
		{52429, 52429, most, 524288},
		// A count below 0 is 0.
		{52429, 52429, -1, 52429},
		{52429, 52429, -9, 52429},
		{52429, 52429, least, 52429},
		{52429, 52429, least + 1, 52429},
		{1, 0, 0, 1},
		{1, 0, 1, 1},
		{1, 0, most, 1},
		{1, 1, 0, 1},
		{1, 1, 1, 2},
		{1, 1, 524286, 524287},
		{1, 1, 524287, 524288},
		{1, 1, 524288, 524288},
		{524287, 0, 5, 524287},
		{524287, 1, 1, 524288},
		{524288, 0, 0, 524288},
		{524288, 524288, 0, 524288},
		{524288, 524288, 1, 524288},
		// A config need not be right.
		{524289, 0, 0, 524288},
		{most, 0, 0, 524288},
		{0, 0, 0, 0},
		{0, 0, most, 0},
		{0, 7, 3, 21},
		{-1, 0, 0, 0},
		{-9, -7, 4, 0},
		{least, 0, 0, 0},
		{-1, 1, 0, 0},
		{-1, 1, 1, 0},
		{-1, 1, 2, 1},
		{100, -7, 0, 100},
		{100, -7, -3, 100},
		{100, -7, 14, 2},
		{100, -7, 15, 0},
		{100, -7, most, 0},
		{1, least, 0, 1},
		{1, least, 1, 0},
		// Both ends are layer 2's.
		{-top, top, 1, 0},
		{-top, top, 2, 0},
		{1000 - top, top, 1, 1000},
		{1000 - top, top, most, 1000},
		{1000 - top, most, 1, 1000},
		{least, most, most, 0},
		{top, -top, 1, 0},
		{top, 5 - top, 1, 5},
		{top + 1000, 5 - top, 1, 5},
		{most, least, 2, 0},
	} {
		if part := Limit(parts(x.omega, x.widen), x.k); part != x.want {
			t.Errorf("%+v: %d", x, part)
		}
	}
}

func TestLimitWordForWord(t *testing.T) { // P21.1
	check := func(c api.Config, k int) {
		t.Helper()
		part := Limit(c, k)
		if part != limitOf(c, k) || part < 0 || part > half {
			t.Fatalf("%+v, %d: %d, not %d", c, k, part, limitOf(c, k))
		}
	}
	for _, omega := range edges() {
		for _, widen := range edges() {
			for _, k := range some() {
				check(parts(omega, widen), k)
			}
		}
	}
	r := random(1)
	for range 50000 {
		check(r.right(), r.times())
		check(r.strange(), r.any())
	}
}

func TestMost(t *testing.T) { // P21.1
	for _, x := range []struct {
		c             api.Config
		k, rate, want int
	}{
		{usual(), 0, 100000, 5000},
		{usual(), 1, 100000, 10000},
		{usual(), 9, 100000, 50000},
		{usual(), 20, 100000, 50000},
		{usual(), -4, 100000, 5000},
		{usual(), least, 100000, 5000},
		{usual(), most, 100000, 50000},
		// It is a part of the rate within its bounds.
		{usual(), 0, 10000, 500},
		{usual(), 0, 9999, 500},
		{usual(), 0, 1, 500},
		{usual(), 0, 0, 500},
		{usual(), 0, least, 500},
		{usual(), 0, 125000000, 6250024},
		{usual(), 0, 125000001, 6250024},
		{usual(), 0, most, 6250024},
		{usual(), 9, most, 62500000},
		// Parts of a byte are rounded to the nearest; a half of one up.
		{parts(half, 0), 0, 10001, 5001},
		{parts(half-1, 0), 0, 10001, 5000},
		{parts(half, 0), 0, 10002, 5001},
		{parts(1, 0), 0, 524287, 0},
		{parts(1, 0), 0, 524288, 1},
		{parts(1, 0), 0, 1572863, 1},
		{parts(1, 0), 0, 1572864, 2},
		// A config need not be right.
		{parts(-9, -7), 4, 5, 0},
		{parts(0, 0), 0, most, 0},
		{parts(most, 0), 0, 100000, 50000},
		{rates(20000, 10000, half), 0, 15000, 10000},
		{rates(20000, 10000, half), 0, 20000, 5000},
		{rates(0, 0, half), 0, 100000, 0},
		{rates(-100001, -1, half), 0, -100001, -50001}, // it may be below 0 here
		{rates(-100001, -1, half), 0, 7, -1},
		{rates(least, most, half), 0, least, -top / 2},
		{rates(least, most, half), 0, most, top / 2},
		{rates(least, most, half), 0, top, top / 2},
		{rates(least, most, half), 0, top - 1, top / 2},
		{rates(least, most, half), 0, top - 2, top/2 - 1},
		{rates(least, most, 1), 0, most, top / one},
		{rates(most, most, half), 0, 0, top / 2},
	} {
		if may := Most(x.c, x.k, x.rate); may != x.want {
			t.Errorf("%+v: %d", x, may)
		}
	}
}

func TestMostWordForWord(t *testing.T) { // P21.1
	check := func(c api.Config, k, rate int) {
		t.Helper()
		if may := Most(c, k, rate); may != mostOf(c, k, rate) {
			t.Fatalf("%+v, %d, %d: %d, not %d", c, k, rate, may, mostOf(c, k, rate))
		}
	}
	for _, c := range configs() {
		for _, k := range edges() {
			for _, rate := range edges() {
				check(c, k, rate)
			}
		}
	}
	r := random(2)
	for range 50000 {
		check(r.right(), r.times(), r.rate())
		check(r.strange(), r.any(), r.any())
	}
}

func TestCut(t *testing.T) { // P21.2
	for _, x := range []struct {
		c                          api.Config
		k, rate, change, cut, next int
	}{
		{usual(), 0, 100000, 0, 0, 0},
		{usual(), 0, 100000, 1, 1, 0},
		{usual(), 0, 100000, -1, -1, 0},
		{usual(), 0, 100000, 4999, 4999, 0},
		{usual(), 0, 100000, 5000, 5000, 0}, // it is not farther
		{usual(), 0, 100000, 5001, 5000, 1},
		{usual(), 0, 100000, -4999, -4999, 0},
		{usual(), 0, 100000, -5000, -5000, 0},
		{usual(), 0, 100000, -5001, -5000, 1},
		{usual(), 0, 100000, most, 5000, 1},
		{usual(), 0, 100000, least, -5000, 1},
		{usual(), 0, 100000, least + 1, -5000, 1},
		{usual(), 1, 100000, 10000, 10000, 0},
		{usual(), 1, 100000, 10001, 10000, 2},
		{usual(), 1, 100000, -10001, -10000, 2},
		{usual(), 3, 100000, most, 20000, 4},
		{usual(), 9, 100000, 50000, 50000, 0},
		{usual(), 9, 100000, 50001, 50000, 10},
		{usual(), 62, 100000, -50001, -50000, 63},
		{usual(), 63, 100000, -50001, -50000, 64}, // it has no end here
		{usual(), 4096, 100000, 50001, 50000, 4097},
		// The count goes on from 0, and from the greatest int anew.
		{usual(), -1, 100000, 5001, 5000, 1},
		{usual(), -1, 100000, 5000, 5000, 0},
		{usual(), -2, 100000, 5001, 5000, 1},
		{usual(), -7, 100000, -5001, -5000, 1},
		{usual(), least, 100000, 5001, 5000, 1},
		{usual(), least, 100000, least, -5000, 1},
		{usual(), least, 100000, 3, 3, 0},
		{usual(), most, 100000, 50001, 50000, 1},
		{usual(), most, 100000, -50001, -50000, 1},
		{usual(), most, 100000, 50000, 50000, 0},
		{usual(), most - 1, 100000, 50001, 50000, most},
		{usual(), most - 1, 100000, 50000, 50000, 0},
		// A rate beyond its bounds is the nearer one.
		{usual(), 0, 1, 501, 500, 1},
		{usual(), 0, least, 500, 500, 0},
		{usual(), 0, most, 6250024, 6250024, 0},
		{usual(), 0, most, 6250025, 6250024, 1},
		{usual(), 0, most, -6250025, -6250024, 1},
		// The fence lets a change beyond the bounds pass: they are met later.
		{usual(), 0, 10000, -400, -400, 0},
		{usual(), 0, 125000000, 5, 5, 0},
		// Where nothing may be changed, each change meets the fence.
		{parts(1, 0), 0, 10000, 0, 0, 0},
		{parts(1, 0), 0, 10000, 1, 0, 1},
		{parts(1, 0), 5, 10000, -1, 0, 6},
		{parts(-9, -7), 0, 100000, 0, 0, 0},
		{parts(-9, -7), 2, 100000, 1, 0, 3},
		{parts(-9, -7), 2, 100000, -1, 0, 3},
		{rates(0, 0, half), 0, 100000, least, 0, 1},
		// Nor may it where Most would be below 0.
		{rates(-100001, -1, half), 0, -100001, 0, 0, 0},
		{rates(-100001, -1, half), 0, -100001, 1, 0, 1},
		{rates(-100001, -1, half), 0, -100001, -1, 0, 1},
		{rates(-100001, -1, half), 4, -100001, 50001, 0, 5},
		{rates(-100001, -1, half), 4, -100001, -50001, 0, 5},
		{rates(least, most, half), 0, least, 0, 0, 0},
		{rates(least, most, half), 0, least, least, 0, 1},
		{rates(least, most, half), 0, least, most, 0, 1},
		{rates(least, most, half), 0, most, most, top / 2, 1},
		{rates(least, most, half), 0, most, least, -top / 2, 1},
		{rates(least, most, half), 0, most, top / 2, top / 2, 0},
		{rates(least, most, half), 0, most, -top / 2, -top / 2, 0},
	} {
		if cut, next := Cut(x.c, x.k, x.rate, x.change); cut != x.cut || next != x.next {
			t.Errorf("%+v: %d, %d", x, cut, next)
		}
	}
}

func TestMove(t *testing.T) { // P21.3
	for _, x := range []struct {
		c                         api.Config
		k, rate, change, to, next int
	}{
		{usual(), 0, 100000, 0, 100000, 0},
		{usual(), 0, 100000, 10000, 105000, 1},
		{usual(), 1, 100000, 10000, 110000, 0},
		{usual(), 0, 100000, -10000, 95000, 1},
		{usual(), 1, 100000, -10000, 90000, 0},
		{usual(), 0, 100000, 5000, 105000, 0},
		{usual(), 0, 100000, 5001, 105000, 1},
		{usual(), 0, 100000, -5000, 95000, 0},
		{usual(), 0, 100000, -5001, 95000, 1},
		{usual(), 3, 100000, most, 120000, 4},
		{usual(), 20, 100000, most, 150000, 21},
		{usual(), 20, 100000, least, 50000, 21},
		{usual(), -3, 100000, least, 95000, 1},
		{usual(), most, 100000, 60000, 150000, 1},
		{usual(), most, 100000, 50000, 150000, 0},
		{usual(), most - 1, 100000, -60000, 50000, most},
		// It stays within the bounds, and doesn't tell by that that the fence was met.
		{usual(), 0, 10000, -400, 10000, 0},
		{usual(), 0, 10000, -501, 10000, 1},
		{usual(), 0, 10400, -500, 10000, 0},
		{usual(), 0, 125000000, 1, 125000000, 0},
		{usual(), 9, 125000000, 90000000, 125000000, 10},
		{usual(), 0, 124999999, 7, 125000000, 0},
		// It goes from the nearer bound, where a rate is beyond them.
		{usual(), 0, 1, 0, 10000, 0},
		{usual(), 0, 1, 300, 10300, 0},
		{usual(), 0, 0, 501, 10500, 1},
		{usual(), 0, -100000, 300, 10300, 0},
		{usual(), 0, least, most, 10500, 1},
		{usual(), 0, 125000400, -300, 124999700, 0},
		{usual(), 0, most, -6250025, 118749976, 1},
		{usual(), 0, most, most, 125000000, 1},
		// A config need not be right.
		{rates(50000, 50000, half), 0, 50000, 10000, 50000, 0},
		{rates(20000, 10000, half), 0, 15000, 0, 10000, 0},
		{rates(20000, 10000, half), 0, 15000, -1, 20000, 0},
		{rates(20000, 10000, half), 0, 25000, 0, 20000, 0},
		{rates(20000, 10000, half), 0, 20000, 5001, 20000, 1},
		{rates(-100001, -1, half), 0, -100001, 7, -100001, 1},
		{rates(-100001, -1, half), 0, -100001, -7, -100001, 1},
		{rates(0, 0, half), 0, 5, -5, 0, 1},
		// Both ends of what is together are layer 2's.
		{rates(least, most, half), 0, most, 0, top, 0},
		{rates(least, most, half), 0, most, 5, top, 0},
		{rates(least, most, half), 0, most, -5, top - 5, 0},
		{rates(least, most, half), 0, most, least, top / 2, 1},
		{rates(least, most, half), 0, top - 2, 5, top, 0},
		{rates(least, most, half), 0, least, 0, -top, 0},
		{rates(least, most, half), 0, least, -5, -top, 1},
		{rates(most, most, half), 0, 0, -5, most, 0},
		{rates(least, least, half), 0, 0, 5, least, 1},
	} {
		if to, next := Move(x.c, x.k, x.rate, x.change); to != x.to || next != x.next {
			t.Errorf("%+v: %d, %d", x, to, next)
		}
	}
}

// checkWords holds Cut and Move against their words.
func checkWords(t *testing.T, c api.Config, k, rate, change int) {
	t.Helper()
	cut, next := Cut(c, k, rate, change)
	if want, then := cutOf(c, k, rate, change); cut != want || next != then {
		t.Fatalf("%+v, %d, %d, %d: %d, %d, not %d, %d", c, k, rate, change, cut, next, want, then)
	}
	to, next := Move(c, k, rate, change)
	if want, then := moveOf(c, k, rate, change); to != want || next != then {
		t.Fatalf("%+v, %d, %d, %d: to %d, %d, not %d, %d", c, k, rate, change, to, next, want, then)
	}
}

func TestCutAndMoveWordForWord(t *testing.T) { // P21.2, P21.3
	for _, c := range configs() {
		for _, k := range some() {
			for _, rate := range some() {
				for _, change := range some() {
					checkWords(t, c, k, rate, change)
				}
			}
		}
	}
	r := random(3)
	for range 50000 {
		c, k, rate := r.right(), r.times(), r.rate()
		checkWords(t, c, k, rate, r.change(c, k, rate))
		c, k, rate = r.strange(), r.any(), r.any()
		checkWords(t, c, k, rate, r.change(c, k, rate))
	}
}

func TestNothingElseCounts(t *testing.T) { // P21.1, P21.2, P21.3
	other := api.Config{Mode: 9, StartRate: 3, Packet: 1, Burst: 2, Ring: 3, MiMin: 4, MiMax: 5, Timeout: 6, Eps: 7, Steps: 8, Gain: 11, Knee: 12, Slope: 13, Power: 14, Lag: 15, Loss: 16, Jitter: 17, Cut: 18}
	r := random(4)
	for range 10000 {
		c, k, rate := r.right(), r.times(), r.rate()
		change := r.change(c, k, rate)
		other.MinRate, other.MaxRate, other.Omega, other.Widen = c.MinRate, c.MaxRate, c.Omega, c.Widen
		to, next := Move(c, k, rate, change)
		if n, then := Move(other, k, rate, change); n != to || then != next || Limit(other, k) != Limit(c, k) || Most(other, k, rate) != Most(c, k, rate) {
			t.Fatalf("%+v, %d, %d, %d", c, k, rate, change)
		}
	}
}

// isWithin tells whether n is no farther from 0 than that part of a rate, and half a byte.
func isWithin(n, rate, part int) bool {
	return 2*one*max(n, -n) <= 2*rate*part+one
}

func TestMovesOfRightConfigs(t *testing.T) { // P21.4
	r := random(5)
	ups, downs, met := 0, 0, 0
	for range 100000 {
		c, k, rate := r.right(), r.times(), r.rate()
		if wrong := config.Check(c); wrong != api.OK {
			t.Fatalf("%+v: %d", c, wrong)
		}
		change := r.change(c, k, rate)
		to, next := Move(c, k, rate, change)
		from := boundOf(c, rate)
		by := to - from
		switch {
		case !isWithin(by, from, Limit(c, k)):
			t.Fatalf("%+v, %d, %d, %d: %d is beyond the limit", c, k, rate, change, to)
		case 2*max(by, -by) > from+2:
			t.Fatalf("%+v, %d, %d, %d: %d is beyond a half, and a byte", c, k, rate, change, to)
		case to < c.MinRate || to > c.MaxRate:
			t.Fatalf("%+v, %d, %d, %d: %d is beyond the bounds", c, k, rate, change, to)
		case by != 0 && signOf(by) != signOf(change):
			t.Fatalf("%+v, %d, %d, %d: %d is to the other side", c, k, rate, change, to)
		case next == 0 && by != change && to != c.MinRate && to != c.MaxRate:
			t.Fatalf("%+v, %d, %d, %d: %d, but the fence was not met", c, k, rate, change, to)
		case next < 0 || next > 0 && k != most && Limit(c, next) < Limit(c, k):
			t.Fatalf("%+v, %d, %d, %d: %d is not wider", c, k, rate, change, next)
		}
		switch {
		case by > 0:
			ups++
		case by < 0:
			downs++
		}
		if next > 0 {
			met++
		}
	}
	if ups < 20000 || downs < 20000 || met < 20000 || met > 80000 {
		t.Errorf("%d, %d, %d", ups, downs, met)
	}
}

func TestTheFenceWidens(t *testing.T) { // P21.4
	rate, k := 100000, 0
	for i, x := range []struct{ change, to, next int }{
		{1000000, 105000, 1}, // as long as it is met
		{1000000, 115500, 2},
		{1000000, 132825, 3},
		{1000000, 159390, 4},
		{1, 159391, 0}, // it is as it was when it is not
		{1000000, 167361, 1},
		{-1000000, 150625, 2}, // to any side
		{-1000000, 128031, 3},
		{0, 128031, 0},
		{-1000000, 121629, 1},
	} {
		if rate, k = Move(usual(), k, rate, x.change); rate != x.to || k != x.next {
			t.Errorf("%d: %d, %d", i, rate, k)
		}
	}
}

func TestTheFenceOfRightConfigs(t *testing.T) { // P21.4
	r := random(6)
	for range 5000 {
		c, k := r.right(), 0
		rate := r.rate()
		for i := range 20 {
			if want := min(c.Omega+i*c.Widen, half); Limit(c, k) != want {
				t.Fatalf("%+v, %d: %d, not %d", c, i, Limit(c, k), want)
			}
			rate, k = Move(c, k, rate, most)
			if k != i+1 {
				t.Fatalf("%+v, %d: %d", c, i, k)
			}
		}
		if _, k = Move(c, k, rate, 0); k != 0 || Limit(c, k) != c.Omega {
			t.Fatalf("%+v: %d, %d", c, k, Limit(c, k))
		}
	}
}

func TestWhatIsTurned(t *testing.T) { // P21.2
	r := random(7)
	for range 20000 {
		c, k, rate := r.strange(), r.any(), r.any()
		change := r.change(c, k, rate)
		if change == least {
			continue // it can't be turned
		}
		cut, next := Cut(c, k, rate, change)
		if back, then := Cut(c, k, rate, -change); back != -cut || then != next {
			t.Fatalf("%+v, %d, %d, %d: %d, %d; %d, %d", c, k, rate, change, cut, next, back, then)
		}
	}
}
