package power

import (
	"math"
	"math/big"
	"slices"
	"testing"

	"pacemaker/api"
	"pacemaker/expo"
)

const (
	one   = api.One
	top   = api.Top
	most  = math.MaxInt
	least = math.MinInt
)

// numbers are ints at which signs, roundings, ends and what is beyond them turn, from the least up.
func numbers() []int {
	l := []int{0, 1, 2, 3, 5, 7, 1000, one / 3, one/2 - 1, one / 2, one*9/10 - 1, one - 1, one, one + 1, one + 7, 3 * one / 2, 2 * one, 3*one - 1, 3 * one, 10 * one, 14 * one, 20*one - 1, 20 * one, 29 * one, 30 * one, 41 * one, 42*one - 1, 42 * one, 1000 * one, 1000003 * one, 1 << 40, 1 << 41, 1<<60 + 1, top / 2, top - 1, top, top + 1, most}
	for _, a := range slices.Clone(l) {
		l = append(l, -a)
	}
	l = append(l, least)
	slices.Sort(l)
	return slices.Compact(l)
}

// exponents go from where Exp is 0 to where it is Top, in steps that meet no bound, and one by one around 0.
func exponents() []int {
	var l []int
	for a := -15 * one; a <= 30*one; a += 9973 {
		l = append(l, a)
	}
	for a := -300; a <= 300; a++ {
		l = append(l, a)
	}
	l = append(l, numbers()...)
	slices.Sort(l)
	return slices.Compact(l)
}

func bigOf(n int) *big.Int { return big.NewInt(int64(n)) }

// meant is what stands for any number, where a fixed one is asked or answered.
func meant(n *big.Int) int {
	switch {
	case n.Cmp(bigOf(top)) > 0:
		return top
	case n.Cmp(bigOf(-top)) < 0:
		return -top
	}
	return int(n.Int64())
}

// fixed is the fixed number that a means, with all the room that sums and products of it need.
func fixed(a int) *big.Int { return bigOf(meant(bigOf(a))) }

// nearest is n by d, which is above 0, rounded to the nearest: of two that are as near to the one farther from 0.
func nearest(n, d *big.Int) int {
	twice := new(big.Int).Lsh(new(big.Int).Abs(n), 1)
	size := twice.Quo(twice.Add(twice, d), new(big.Int).Lsh(d, 1))
	return meant(size.Mul(size, bigOf(n.Sign())))
}

// product is layer 2's.
func product(a, b int) int {
	return nearest(new(big.Int).Mul(fixed(a), fixed(b)), bigOf(one))
}

// less is layer 2's.
func less(a, b int) int { return meant(new(big.Int).Sub(fixed(a), fixed(b))) }

// powOf is P5.1 word for word, by the logarithms and powers of layer 4.
func powOf(x, t int) int {
	if x <= 0 {
		return 0
	}
	return expo.Exp2(product(t, expo.Log2(x)))
}

// expOf is P5.1 word for word.
func expOf(a int) int { return expo.Exp2(product(a, 1512775)) }

// sigOf is P5.2 word for word.
func sigOf(a int) int {
	below := bigOf(meant(new(big.Int).Add(bigOf(one), fixed(expOf(a)))))
	return nearest(bigOf(one*one), below)
}

// curveOf is P5.2 word for word.
func curveOf(gain, a, mid int) int { return sigOf(product(gain, less(a, mid))) }

func TestPow(t *testing.T) { // P5.1
	for i, x := range []struct{ x, t, power int }{
		{1, 9, 1048451}, // the chapter's examples
		{one, 5, one},
		{0, 0, 0},
		{2 * one, 3 * one, 8 * one},
		{2 * one, -one, one / 2},
		{4 * one, one / 2, 2 * one},
		{one / 2, 2 * one, one / 4},
		{one / 2, -2 * one, 4 * one},
		{3 * one, one, 3*one - 2},
		{3 * one, 2 * one, 9437176},
		{3 * one, -one, 349525},
		{10 * one, one / 2, 3315888},
		{1000 * one, 943718, 525531515}, // the usual power of the units of a rate
		{5, 0, one},
		{top, 0, one},
		{1, one, 1},
		{1, 2 * one, 0},
		{1, -one, 1 << 40},
		{7, 3, 1048539},
		{2 * one, 41 * one, 1 << 61}, // both ends of powers
		{2 * one, 42*one - 1, 4611682969934856248},
		{2 * one, 42 * one, top},
		{2 * one, -20 * one, 1},
		{2 * one, -20*one - 1, 0},
		{1 << 41, 2*one - 1, 4611622000507407856},
		{1 << 41, 2 * one, top},
		{top, one, top},
		{top, one + 1, top},
		{top, -one, 0},
	} {
		if power := Pow(x.x, x.t); power != x.power {
			t.Errorf("%d: Pow(%d, %d) is %d", i, x.x, x.t, power)
		}
	}
	for _, x := range numbers() {
		for _, exponent := range numbers() {
			if power := Pow(x, exponent); power != powOf(x, exponent) {
				t.Errorf("Pow(%d, %d) is %d, not %d", x, exponent, power, powOf(x, exponent))
			}
		}
	}
}

func TestPowersOfWhatIsNotAbove0(t *testing.T) { // P5.1
	for _, x := range []int{0, -1, -one, -3 * one, -top, -top - 1, least + 1, least} {
		for _, exponent := range numbers() {
			if power := Pow(x, exponent); power != 0 {
				t.Errorf("Pow(%d, %d) is %d", x, exponent, power)
			}
		}
	}
}

func TestPowersOfWhatIsNoFixedNumber(t *testing.T) { // P5.1
	for _, beyond := range []int{top + 1, 3 << 61, most - 1, most} {
		for _, a := range numbers() {
			if power := Pow(beyond, a); power != Pow(top, a) {
				t.Errorf("Pow(%d, %d) is %d", beyond, a, power)
			}
			if up, down := Pow(a, beyond), Pow(a, -beyond); up != Pow(a, top) || down != Pow(a, -top) {
				t.Errorf("Pow(%d, %d) is %d, by it turned %d", a, beyond, up, down)
			}
		}
	}
	for i, x := range []struct{ x, t, power int }{
		{one - 1, most, 0},
		{one - 1, least, top},
		{one, most, one},
		{one, least, one},
		{one + 1, most, top},
		{one + 1, least, 0},
		{1, most, 0},
		{1, least, top},
		{most, most, top},
		{most, least, 0},
		{most, 0, one},
		{most, one, top},
	} {
		if power := Pow(x.x, x.t); power != x.power {
			t.Errorf("%d: Pow(%d, %d) is %d", i, x.x, x.t, power)
		}
	}
}

func TestExp(t *testing.T) { // P5.1
	for i, x := range []struct{ a, power int }{
		{0, one}, // the chapter's example
		{1, one},
		{-1, one - 1},
		{one / 2, 1728809},
		{one, 2850324},
		{-one, 385749},
		{2 * one, 7747982},
		{10 * one, 23096363060},
		{-10 * one, 47},
		{-13 * one, 2},
		{-14536354, 1}, // both ends of powers
		{-14536355, 0},
		{29 * one, 4122271561857830946},
		{30526342, 4611682969934856248},
		{30526343, top},
		{top - 1, top},
		{top, top},
		{top + 1, top}, // beyond the ends of fixed numbers
		{most, top},
		{-top, 0},
		{-top - 1, 0},
		{least, 0},
	} {
		if power := Exp(x.a); power != x.power {
			t.Errorf("%d: Exp(%d) is %d", i, x.a, power)
		}
	}
	for _, a := range exponents() {
		if power := Exp(a); power != expOf(a) {
			t.Fatalf("Exp(%d) is %d, not %d", a, power, expOf(a))
		}
	}
}

func TestSig(t *testing.T) { // P5.2
	for i, x := range []struct{ a, sig int }{
		{0, one / 2}, // the chapter's example
		{-1, one / 2},
		{1, one / 2},
		{3, one / 2},
		{4, one/2 - 1},
		{one / 2, 395880},
		{one, 282006},
		{-one, 766571},
		{2 * one, 124993},
		{10 * one, 48},
		{-10 * one, 1048529},
		{15263171, 1}, // where it is 0 and 1 from
		{15263172, 0},
		{-14536354, one - 1},
		{-14536355, one},
		{30 * one, 0},
		{top, 0},
		{-top, one},
		{top + 1, 0}, // beyond the ends of fixed numbers
		{most, 0},
		{-top - 1, one},
		{least, one},
	} {
		if sig := Sig(x.a); sig != x.sig {
			t.Errorf("%d: Sig(%d) is %d", i, x.a, sig)
		}
	}
	for _, a := range exponents() {
		if sig := Sig(a); sig != sigOf(a) {
			t.Fatalf("Sig(%d) is %d, not %d", a, sig, sigOf(a))
		}
	}
}

func TestCurve(t *testing.T) { // P5.2
	for i, x := range []struct{ gain, a, mid, curve int }{
		{5, 7, 7, one / 2},
		{0, 1, 9, one / 2},
		{0, least, most, one / 2},
		{one, one, 0, 282006},
		{one, 0, one, 766571},
		{-one, one, 0, 766571},
		{one, 5 * one, 3 * one, 124993},
		{2 * one, 5 * one, 4 * one, 124993},
		{100 * one, one/20 + 1000, one/20 - 1000, 474439}, // as losses are weighed
		{1 << 40, 1 << 20, 1<<20 - 10, 48},
		{one / 2, 4, -4, one/2 - 1}, // a product of 4
		{one / 2, 3, -4, one/2 - 1}, // one of 3 and a half, rounded
		{one / 2, 3, -3, one / 2},
		{top, 2, 1, 0}, // the ends of products, and of fixed numbers
		{top, 1, 2, one},
		{-top, 1, 2, 0},
		{top, top, -top, 0},
		{top, -top, top, one},
		{1, top, -top, 0}, // two ends together are an end
		{1, -top, top, one},
		{most, 2, 1, 0},
		{least, 2, 1, one},
		{one, most, top, one / 2},
		{one, least, -top, one / 2},
		{one, most, top - one, 282006},
		{one, top - one, most, 766571},
		{1, 0, least, 0},
	} {
		if curve := Curve(x.gain, x.a, x.mid); curve != x.curve {
			t.Errorf("%d: Curve(%d, %d, %d) is %d", i, x.gain, x.a, x.mid, curve)
		}
	}
	all := numbers()
	for i, gain := range all {
		for _, a := range all {
			// A third of the mids, another one for each gain, is enough.
			for k := i % 3; k < len(all); k += 3 {
				mid := all[k]
				if curve := Curve(gain, a, mid); curve != curveOf(gain, a, mid) {
					t.Fatalf("Curve(%d, %d, %d) is %d, not %d", gain, a, mid, curve, curveOf(gain, a, mid))
				}
			}
		}
	}
}

// TestTheyAreNearWhatFloatsTell: that the steps are those of a power of e, and of the curve that is made of it.
func TestTheyAreNearWhatFloatsTell(t *testing.T) { // P5.1, P5.2
	for a := -15 * one; a <= 28*one; a += 9973 {
		x := math.Exp(float64(a) / one)
		if power := Exp(a); math.Abs(float64(power)/one-x) > x/50000+2.0/one {
			t.Fatalf("Exp(%d) is %d, not near %g", a, power, x*one)
		}
		if sig := Sig(a); math.Abs(float64(sig)-one/(1+x)) > 2 {
			t.Fatalf("Sig(%d) is %d, not near %g", a, sig, one/(1+x))
		}
	}
}

func TestSigFalls(t *testing.T) { // P5.3
	last := one
	for _, a := range exponents() {
		if sig := Sig(a); sig > last || sig < 0 {
			t.Fatalf("Sig(%d) is %d, behind %d", a, sig, last)
		} else {
			last = sig
		}
	}
	if high, half, low := Sig(-top), Sig(0), Sig(top); high != one || half != one/2 || low != 0 {
		t.Errorf("from %d by %d to %d", high, half, low)
	}
}

func TestSigOfATurned(t *testing.T) { // P5.3
	for _, a := range exponents() {
		if a == least {
			continue // no int is this one turned
		}
		if both := Sig(a) + Sig(-a); both < one-8 || both > one+8 {
			t.Fatalf("of %d, and of it turned: %d", a, both)
		}
	}
}

func TestPowBy1(t *testing.T) { // P5.3
	for x := 1; x < 4*one; x += 1009 {
		checkPowBy1(t, x)
	}
	for _, x := range numbers() {
		if x > 0 && x <= top {
			checkPowBy1(t, x)
		}
	}
}

func checkPowBy1(t *testing.T, x int) {
	t.Helper()
	if under := x - Pow(x, one); under < 0 || under > x/one+2 {
		t.Errorf("Pow(%d, 1) is less by %d", x, under)
	}
}

func TestPowGrows(t *testing.T) { // P5.3
	all := numbers()
	for i, a := range all[1:] {
		before := all[i]
		for _, b := range all {
			if b >= 0 && Pow(a, b) < Pow(before, b) {
				t.Errorf("Pow(%d, %d) is below Pow(%d, %d)", a, b, before, b)
			}
			if b >= one && Pow(b, a) < Pow(b, before) {
				t.Errorf("Pow(%d, %d) is below Pow(%d, %d)", b, a, b, before)
			}
		}
	}
	for a := 3 * one; a < 3*one+3000; a++ {
		if Pow(a+1, 943718) < Pow(a, 943718) || Pow(10*one, a+1) < Pow(10*one, a) {
			t.Fatalf("behind %d it falls", a)
		}
	}
}
