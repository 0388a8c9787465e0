package expo

import (
	"math"
	"math/big"
	"slices"
	"testing"

	"pacemaker/api"
)

const (
	one       = api.One
	top       = api.Top
	factorOne = 1 << 60 // 1, as factors are told
)

// aboves are fixed numbers above 0, from 1 to Top: each power of two, what is beside it, and some others.
func aboves() []int {
	l := []int{3, 5, 6, 7, 10, 1000, 1000003, 3 * one, 10 * one, 1482910, 6074000999, 0x1e3779b97f4a7c15, 3 << 60, top - 2}
	for n := range 62 {
		l = append(l, 1<<n, 1<<n+1, 3<<n>>1)
		if n > 0 {
			l = append(l, 1<<n-1)
		}
	}
	l = append(l, top-1, top)
	l = slices.DeleteFunc(l, func(a int) bool { return a > top })
	slices.Sort(l)
	return slices.Compact(l)
}

// exponents are fixed numbers from below -21 to above 42: each whole one, what is beside it, each bit behind it, and steps that meet no bound.
func exponents() []int {
	var l []int
	for n := -22; n <= 43; n++ {
		for k := range 20 {
			l = append(l, n*one-1<<k, n*one, n*one+1<<k)
		}
	}
	for a := -21 * one; a <= 43*one; a += 9973 {
		l = append(l, a)
	}
	slices.Sort(l)
	return slices.Compact(l)
}

func bigWord(x uint64) *big.Int { return new(big.Int).SetUint64(x) }

// shifted is x times two to the power of n, rounded down.
func shifted(x *big.Int, n int) *big.Int {
	if n < 0 {
		return new(big.Int).Rsh(x, uint(-n))
	}
	return new(big.Int).Lsh(x, uint(n))
}

// logOf is P4.1 word for word, of an a above 0.
func logOf(a int) int {
	n := bigWord(uint64(a)).BitLen() - 1
	m := shifted(big.NewInt(int64(a)), 62-n)
	log := (n - 20) * one
	for k := 1; k <= 20; k++ {
		m = shifted(new(big.Int).Mul(m, m), -62)
		if m.Cmp(bigWord(1<<63)) >= 0 {
			log += 1 << (20 - k)
			m = shifted(m, -1)
		}
	}
	return log
}

// factorOf is P4.2 word for word, of a k from 0 to 20.
func factorOf(k int) *big.Int {
	f := bigWord(1 << 61)
	for range k {
		f = new(big.Int).Sqrt(shifted(f, 60))
	}
	return f
}

// powerOf is P4.3 word for word, of factors told ahead.
func powerOf(a int, factors []*big.Int) int {
	n := a >> 20
	if n > 41 {
		return top
	}
	if n < -20 {
		return 0
	}
	p := bigWord(1 << 60)
	for k := 1; k <= 20; k++ {
		if a>>(20-k)&1 == 1 {
			p = shifted(new(big.Int).Mul(p, factors[k]), -60)
		}
	}
	return int(shifted(p, n-40).Int64())
}

func allFactors() []*big.Int {
	var l []*big.Int
	for k := range 21 {
		l = append(l, factorOf(k))
	}
	return l
}

func TestLog2(t *testing.T) { // P4.1
	for i, x := range []struct{ a, log int }{
		{one, 0}, // the chapter's examples
		{1, -20 * one},
		{3 * one, 1661953},
		{2, -19 * one},
		{3, 1661953 - 20*one},
		{one / 2, -one},
		{one - 1, -2},
		{one + 1, 1},
		{one + 2, 2},
		{2*one - 1, one - 1},
		{2 * one, one},
		{1482910, one/2 - 1}, // the root of 2, rounded down
		{1482911, one / 2},
		{top - 1, 42*one - 1},
		{top, 42 * one},
	} {
		if log := Log2(x.a); log != x.log {
			t.Errorf("%d: Log2(%d) is %d", i, x.a, log)
		}
	}
	for _, a := range aboves() {
		if log := Log2(a); log != logOf(a) {
			t.Errorf("Log2(%d) is %d, not %d", a, log, logOf(a))
		}
	}
	for a := 1; a <= 4*one; a += 331 {
		if log := Log2(a); log != logOf(a) {
			t.Fatalf("Log2(%d) is %d, not %d", a, log, logOf(a))
		}
	}
}

func TestLogsOfWhatHasNone(t *testing.T) { // P4.1
	for _, a := range []int{0, -1, -one, -3 * one, -top, -top - 1, math.MinInt + 1, math.MinInt} {
		if log := Log2(a); log != -top {
			t.Errorf("Log2(%d) is %d", a, log)
		}
	}
}

func TestLogsOfWhatIsNoFixedNumber(t *testing.T) { // P4.1
	for _, a := range []int{top + 1, 3 << 61, math.MaxInt - 1, math.MaxInt} {
		if log := Log2(a); log != 42*one {
			t.Errorf("Log2(%d) is %d", a, log)
		}
	}
}

func TestFactor(t *testing.T) { // P4.2
	for i, x := range []struct {
		k int
		f uint64
	}{
		{1, 1630477228166597776}, // the chapter's example
		{0, 2 * factorOne},
		{-1, 2 * factorOne},
		{math.MinInt, 2 * factorOne},
		{2, 1371062456318104877},
		{20, factorOf(20).Uint64()},
		{21, factorOf(20).Uint64()},
		{22, factorOf(20).Uint64()},
		{math.MaxInt, factorOf(20).Uint64()},
	} {
		if f := Factor(x.k); f != x.f {
			t.Errorf("%d: Factor(%d) is %d", i, x.k, f)
		}
	}
	for k := range 21 {
		if f := Factor(k); bigWord(f).Cmp(factorOf(k)) != 0 {
			t.Errorf("Factor(%d) is %d", k, f)
		}
	}
}

func TestExp2(t *testing.T) { // P4.3
	for i, x := range []struct{ a, power int }{
		{0, one}, // the chapter's examples
		{one / 2, 1482910},
		{one, 2 * one},
		{-one, one / 2},
		{-one / 2, 741455},
		{1, one},
		{-1, one - 1},
		{3 * one / 2, 2965820},
		{one/2 + one/4, 1763487},
		{-20*one - 1, 0}, // its whole part is -21
		{-20 * one, 1},
		{-20*one + 1, 1},
		{-19*one - 1, 1},
		{-19 * one, 2},
		{41 * one, 1 << 61},
		{42 * one, top},
		{42*one + 1, top},
		{43 * one, top},
	} {
		if power := Exp2(x.a); power != x.power {
			t.Errorf("%d: Exp2(%d) is %d", i, x.a, power)
		}
	}
	factors := allFactors()
	for _, a := range exponents() {
		if power := Exp2(a); power != powerOf(a, factors) {
			t.Fatalf("Exp2(%d) is %d, not %d", a, power, powerOf(a, factors))
		}
	}
}

func TestPowersOfGreatNumbers(t *testing.T) { // P4.3
	for _, a := range []int{43 * one, 64 * one, 1 << 40, top - 1, top, top + 1, math.MaxInt - 1, math.MaxInt} {
		if up, down := Exp2(a), Exp2(-a); up != top || down != 0 {
			t.Errorf("Exp2(%d) is %d, of it turned %d", a, up, down)
		}
	}
	if power := Exp2(math.MinInt); power != 0 {
		t.Errorf("of the least int: %d", power)
	}
}

func TestWholeNumbersAreExact(t *testing.T) { // P4.4
	for n := -20; n <= 42; n++ {
		power := 1 << (n + 20)
		if log := Log2(power); log != n*one {
			t.Errorf("Log2(%d) is %d", power, log)
		}
		if p := Exp2(n * one); p != power {
			t.Errorf("Exp2(%d) is %d", n*one, p)
		}
	}
}

func TestBothGrow(t *testing.T) { // P4.4
	last := -top
	for _, a := range aboves() {
		if log := Log2(a); log < last {
			t.Errorf("Log2(%d) is %d, below %d", a, log, last)
		} else {
			last = log
		}
	}
	last = 0
	for _, a := range exponents() {
		if power := Exp2(a); power < last {
			t.Fatalf("Exp2(%d) is %d, below %d", a, power, last)
		} else {
			last = power
		}
	}
	for a := one; a < one+5000; a++ {
		if Log2(a+1) < Log2(a) || Exp2(a+1) < Exp2(a) {
			t.Fatalf("of %d and the next one: %d, %d; %d, %d", a, Log2(a), Log2(a+1), Exp2(a), Exp2(a+1))
		}
	}
}

func TestPowersOfLogs(t *testing.T) { // P4.4
	for _, a := range aboves() {
		less := a - Exp2(Log2(a))
		if less < 0 || less > a/one+2 {
			t.Errorf("of %d: less by %d", a, less)
		}
	}
}

func TestLogsOfPowers(t *testing.T) { // P4.4
	for _, a := range exponents() {
		if a < 0 || a > 42*one {
			continue
		}
		if less := a - Log2(Exp2(a)); less < 0 || less > 3 {
			t.Fatalf("of %d: less by %d", a, less)
		}
	}
}

func TestTwiceAsGreatANumber(t *testing.T) { // P4.4
	for _, a := range aboves() {
		if a <= top/2 && Log2(2*a) != Log2(a)+one {
			t.Errorf("of %d: %d, then %d", a, Log2(a), Log2(2*a))
		}
	}
}
