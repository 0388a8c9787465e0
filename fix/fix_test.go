package fix

import (
	"math"
	"math/big"
	"testing"

	"pacemaker/api"
)

const (
	one   = api.One
	top   = api.Top
	most  = math.MaxInt
	least = math.MinInt
)

// numbers are ints at which roundings, signs, ends and what is beyond them turn, from the least up.
func numbers() []int {
	return []int{
		least, least + 1, -top - 1, -top, -top + 1, -top / 2, -1<<42 - 1, -1 << 42, -1<<42 + 1, -1<<31 - 1, -3*one - 1, -one - 1, -one, -one + 1, -one / 2, -one/2 + 1, -7, -3, -2, -1,
		0,
		1, 2, 3, 7, one/2 - 1, one / 2, one - 1, one, one + 1, 3*one + 1, 1<<31 + 1, 1<<42 - 1, 1 << 42, 1<<42 + 1, top / 2, top - 1, top, top + 1, most - 1, most,
	}
}

func bigOf(n int) *big.Int { return big.NewInt(int64(n)) }

// meant is what stands for any number, where a fixed one is asked or answered.
func meant(n *big.Int) int {
	switch {
	case n.Cmp(bigOf(top)) > 0:
		return top
	case n.Cmp(bigOf(-top)) < 0:
		return -top
	}
	return int(n.Int64())
}

// scaled is P2.3 word for word: of a remainder that is half of d or more the next number farther from 0 is the nearest.
func scaled(a, n, d int) int {
	product := bigOf(meant(bigOf(a)))
	product.Mul(product, bigOf(n))
	if d == 0 {
		return product.Sign() * top
	}
	times, left := new(big.Int).QuoRem(product, bigOf(d), new(big.Int))
	twice := new(big.Int).Lsh(left.Abs(left), 1)
	if twice.Cmp(new(big.Int).Abs(bigOf(d))) >= 0 {
		times.Add(times, bigOf(product.Sign()*bigOf(d).Sign()))
	}
	return meant(times)
}

func TestPlacesAreThoseOfOne(t *testing.T) { // P2.1
	if 1<<places != api.One || low != -api.Top || high != api.Top {
		t.Fatalf("%d places, from %d to %d", places, low, high)
	}
}

func TestWhatIsFixed(t *testing.T) { // P2.1
	for i, x := range []struct {
		a, clamped int
		is         bool
	}{
		{0, 0, true},
		{1, 1, true},
		{-1, -1, true},
		{top - 1, top - 1, true},
		{top, top, true},
		{top + 1, top, false},
		{most, top, false},
		{-top + 1, -top + 1, true},
		{-top, -top, true},
		{-top - 1, -top, false},
		{least, -top, false},
	} {
		if is, clamped := Is(x.a), Clamp(x.a); is != x.is || clamped != x.clamped {
			t.Errorf("%d: Is(%d) is %t, Clamp %d", i, x.a, is, clamped)
		}
	}
}

func TestOf(t *testing.T) { // P2.1
	for i, x := range []struct{ n, of int }{
		{0, 0},
		{3, 3145728}, // the chapter's example
		{-1, -1048576},
		{1<<42 - 1, top - one},
		{1 << 42, top},
		{1<<42 + 1, top},
		{1 << 44, top}, // times 1048576 this and the next are 0, if they wrap round
		{-1 << 44, -top},
		{-1<<42 + 1, -top + one},
		{-1 << 42, -top},
		{-1<<42 - 1, -top},
		{most, top},
		{least, -top},
	} {
		if of := Of(x.n); of != x.of {
			t.Errorf("%d: Of(%d) is %d", i, x.n, of)
		}
	}
}

func TestWhole(t *testing.T) { // P2.1
	for i, x := range []struct{ a, whole int }{
		{0, 0},
		{1, 0},
		{-1, -1}, // the chapter's example
		{one - 1, 0},
		{one, 1},
		{one + 1, 1},
		{-one + 1, -1},
		{-one, -1},
		{-one - 1, -2},
		{top - 1, 1<<42 - 1},
		{top, 1 << 42},
		{most, 1 << 42},
		{-top + 1, -1 << 42},
		{-top, -1 << 42},
		{least, -1 << 42},
	} {
		if whole := Whole(x.a); whole != x.whole {
			t.Errorf("%d: Whole(%d) is %d", i, x.a, whole)
		}
	}
	for _, n := range numbers() {
		if back := Whole(Of(n)); n >= -1<<42 && n <= 1<<42 && back != n {
			t.Errorf("Whole(Of(%d)) is %d", n, back)
		}
	}
}

func TestSumsAtEdges(t *testing.T) { // P2.2
	for i, x := range []struct{ a, b, sum, less int }{
		{0, 0, 0, 0},
		{3 * one, one, 4 * one, 2 * one},
		{-5, 3, -2, -8},
		{top, 0, top, top},
		{top - 1, 1, top, top - 2},
		{top, 1, top, top - 1},
		{top, -1, top - 1, top},
		{-top, 1, -top + 1, -top},
		{top, top, top, 0}, // the sum is no int
		{-top, -top, -top, 0},
		{top, -top, 0, top},
		{-top, top, 0, -top},
		{most, -1, top - 1, top}, // what is beyond an end is that end, ahead of the sum
		{least, 1, -top + 1, -top},
		{0, least, -top, top},
		{most, most, top, 0},
		{least, least, -top, 0},
		{most, least, 0, top},
	} {
		if sum, less := Add(x.a, x.b), Sub(x.a, x.b); sum != x.sum || less != x.less {
			t.Errorf("%d: %d and %d: %d, %d", i, x.a, x.b, sum, less)
		}
	}
}

func TestSumsAreThoseOfBigNumbers(t *testing.T) { // P2.2
	for _, a := range numbers() {
		for _, b := range numbers() {
			x, y := bigOf(meant(bigOf(a))), bigOf(meant(bigOf(b)))
			sum, less := meant(new(big.Int).Add(x, y)), meant(new(big.Int).Sub(x, y))
			if Add(a, b) != sum || Sub(a, b) != less {
				t.Fatalf("%d and %d: %d, %d", a, b, Add(a, b), Sub(a, b))
			}
		}
	}
}

func TestScaleAtEdges(t *testing.T) { // P2.3
	for i, x := range []struct{ a, n, d, want int }{
		{5, 1, 2, 3}, // the chapter's examples, and their other signs
		{-5, 1, 2, -3},
		{5, -1, 2, -3},
		{5, 1, -2, -3},
		{-5, -1, 2, 3},
		{-5, 1, -2, 3},
		{5, -1, -2, 3},
		{-5, -1, -2, -3},
		{4, 1, 3, 1}, // the nearest below, and above
		{5, 1, 3, 2},
		{-4, 1, 3, -1},
		{-5, 1, 3, -2},
		{2, 1, 5, 0},
		{-2, 1, 5, 0},
		{3, 1, 5, 1},
		{1, 1, 2, 1}, // as near to 0 as to 1
		{-1, 1, 2, -1},
		{100000, 1059062, one, 101000}, // the document's step up
		{top, 3, 3, top},
		{top, top, top, top}, // products beyond 64 bits
		{top - 1, most, most, top - 1},
		{top, 3, 2, top},
		{-top, 3, 2, -top},
		{1, most, 1, top},
		{1, least, 1, -top},
		{1, least, 2, -top},
		{1, 1, least, 0},
		{top, 1, least, -1}, // a half below 0
		{top - 1, 1, least, 0},
		{top, least, least, top},
		{most, 1, 2, top / 2}, // a is a fixed number, n and d are any
		{least, 1, 2, -top / 2},
		{1, most, 2, top},
		{2, 1, 0, top}, // by 0
		{-2, 1, 0, -top},
		{2, -1, 0, -top},
		{-2, -1, 0, top},
		{least, least, 0, top},
		{0, 5, 0, 0},
		{5, 0, 0, 0},
		{0, 0, 0, 0},
		{0, least, least, 0},
	} {
		if got := Scale(x.a, x.n, x.d); got != x.want {
			t.Errorf("%d: Scale(%d, %d, %d) is %d", i, x.a, x.n, x.d, got)
		}
	}
}

func TestProductsAtEdges(t *testing.T) { // P2.3
	for i, x := range []struct{ a, b, product, times int }{
		{3 * one, 2 * one, 6 * one, 3 * one / 2},
		{1, 2 * one, 2, 1}, // a half is rounded away from 0
		{-1, 2 * one, -2, -1},
		{one / 2, 1, 1, 1 << 39},
		{one/2 - 1, 1, 0, 1<<39 - one},
		{5, 3 * one, 15, 2},
		{top, top, top, one}, // the chapter's example
		{top, -top, -top, -one},
		{top, one / 2, top / 2, top},
		{most, one / 2, top / 2, top}, // either number is a fixed one
		{1, most, 1 << 42, 0},
		{most, least, -top, -one},
		{-1 << 41, least, top, 1}, // a half again
		{1, 0, 0, top},            // the chapter's example
		{-1, 0, 0, -top},
		{least, 0, 0, -top},
		{0, 0, 0, 0},
	} {
		if product, times := Mul(x.a, x.b), Quo(x.a, x.b); product != x.product || times != x.times {
			t.Errorf("%d: %d and %d: %d, %d", i, x.a, x.b, product, times)
		}
	}
}

func TestScaleIsThatOfBigNumbers(t *testing.T) { // P2.3
	for _, a := range numbers() {
		for _, n := range numbers() {
			for _, d := range numbers() {
				if got := Scale(a, n, d); got != scaled(a, n, d) {
					t.Fatalf("Scale(%d, %d, %d) is %d", a, n, d, got)
				}
			}
		}
	}
	for a := -40; a <= 40; a++ {
		for d := -9; d <= 9; d++ {
			if got := Scale(a, 1, d); got != scaled(a, 1, d) {
				t.Fatalf("Scale(%d, 1, %d) is %d", a, d, got)
			}
		}
	}
}

func TestProductsAreThoseOfBigNumbers(t *testing.T) { // P2.3
	for _, a := range numbers() {
		for _, b := range numbers() {
			fixed := meant(bigOf(b))
			if product := Mul(a, b); product != scaled(a, fixed, one) {
				t.Fatalf("Mul(%d, %d) is %d", a, b, product)
			}
			if times := Quo(a, b); times != scaled(a, one, fixed) {
				t.Fatalf("Quo(%d, %d) is %d", a, b, times)
			}
		}
	}
}

func TestTurnedNumbersGiveTurnedAnswers(t *testing.T) { // P2.4
	for _, a := range numbers() {
		if a == least {
			continue // no int is this one turned
		}
		if Is(-a) != Is(a) || Clamp(-a) != -Clamp(a) || Of(-a) != -Of(a) {
			t.Errorf("%d turned: %t, %d, %d", a, Is(-a), Clamp(-a), Of(-a))
		}
		for _, b := range numbers() {
			if b == least {
				continue
			}
			if Add(-a, -b) != -Add(a, b) || Sub(-a, -b) != -Sub(a, b) {
				t.Fatalf("%d and %d turned: %d, %d", a, b, Add(-a, -b), Sub(-a, -b))
			}
			if Mul(-a, b) != -Mul(a, b) || Mul(a, -b) != -Mul(a, b) || Quo(-a, b) != -Quo(a, b) {
				t.Fatalf("%d turned, and %d: %d, %d", a, b, Mul(-a, b), Quo(-a, b))
			}
			if b != 0 && Quo(a, -b) != -Quo(a, b) {
				t.Fatalf("%d by %d turned: %d", a, b, Quo(a, -b))
			}
		}
	}
}

func TestWhatLeavesANumber(t *testing.T) { // P2.4
	for _, a := range numbers() {
		same := meant(bigOf(a))
		for i, got := range []int{Clamp(a), Add(a, 0), Add(0, a), Sub(a, 0), Mul(a, one), Mul(one, a), Quo(a, one), Scale(a, 1, 1), Scale(a, -1, -1), Scale(a, most, most), Scale(a, least, least)} {
			if got != same {
				t.Errorf("%d: of %d: %d", i, a, got)
			}
		}
	}
}

func TestGreaterNumbersGiveNoLess(t *testing.T) { // P2.4
	all := numbers()
	for i, a := range all[1:] {
		before := all[i]
		if Clamp(a) < Clamp(before) || Of(a) < Of(before) || Whole(a) < Whole(before) {
			t.Errorf("of %d: %d, %d, %d", a, Clamp(a), Of(a), Whole(a))
		}
		for _, b := range all {
			if Add(a, b) < Add(before, b) || Add(b, a) < Add(b, before) || Sub(a, b) < Sub(before, b) {
				t.Fatalf("%d after %d, with %d: %d, %d", a, before, b, Add(a, b), Sub(a, b))
			}
			if b > 0 && (Mul(a, b) < Mul(before, b) || Mul(b, a) < Mul(b, before) || Quo(a, b) < Quo(before, b)) {
				t.Fatalf("%d after %d, with %d: %d, %d", a, before, b, Mul(a, b), Quo(a, b))
			}
		}
	}
}
