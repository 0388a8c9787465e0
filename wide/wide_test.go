package wide

import (
	"math"
	"math/big"
	"testing"

	"pacemaker/api"
)

const most = math.MaxUint64

func of(hi, lo uint64) api.Wide { return api.Wide{Hi: hi, Lo: lo} }

// words are halves at which carries, shifts and signs turn.
func words() []uint64 {
	return []uint64{0, 1, 2, 3, 5, 6, 10, 1<<31 - 1, 1<<32 - 1, 1 << 32, 1<<32 + 1, 1<<62 + 7, 1<<63 - 1, 1 << 63, 1<<63 + 1, 0x9e3779b97f4a7c15, most - 1, most}
}

// wides are all pairs of words.
func wides() []api.Wide {
	var l []api.Wide
	for _, hi := range words() {
		for _, lo := range words() {
			l = append(l, of(hi, lo))
		}
	}
	return l
}

func bigOf(a api.Wide) *big.Int {
	b := new(big.Int).SetUint64(a.Hi)
	return b.Add(b.Lsh(b, 64), new(big.Int).SetUint64(a.Lo))
}

// power is two to the power of 128.
func power() *big.Int { return new(big.Int).Lsh(big.NewInt(1), 128) }

func wideOf(b *big.Int) api.Wide {
	low := new(big.Int).And(b, new(big.Int).SetUint64(most))
	return of(new(big.Int).Rsh(b, 64).Uint64(), low.Uint64())
}

// shifts are those that the chapter names, and some on either side.
func shifts() []int {
	return []int{math.MinInt, -128, -64, -1, 0, 1, 2, 31, 62, 63, 64, 65, 66, 100, 126, 127, 128, 129, 191, 192, 1 << 32, math.MaxInt}
}

func TestSumsAtEdges(t *testing.T) { // P1.1
	for i, x := range []struct {
		a, b, sum api.Wide
		over      uint64
	}{
		{of(0, 0), of(0, 0), of(0, 0), 0},
		{of(0, 2), of(0, 3), of(0, 5), 0},
		{of(0, most), of(0, 1), of(1, 0), 0},
		{of(most, 0), of(0, most), of(most, most), 0},
		{of(most, most), of(0, 1), of(0, 0), 1},
		{of(most, most), of(most, most), of(most, most-1), 1},
		{of(1<<63, 0), of(1<<63, 0), of(0, 0), 1},
	} {
		if sum, over := Add(x.a, x.b); sum != x.sum || over != x.over {
			t.Errorf("%d: Add(%v, %v) is %v, %d", i, x.a, x.b, sum, over)
		}
	}
}

func TestDifferencesAtEdges(t *testing.T) { // P1.1
	for i, x := range []struct {
		a, b, rest api.Wide
		under      uint64
	}{
		{of(0, 0), of(0, 0), of(0, 0), 0},
		{of(0, 5), of(0, 3), of(0, 2), 0},
		{of(1, 0), of(0, 1), of(0, most), 0},
		{of(0, 0), of(0, 1), of(most, most), 1}, // the chapter's example
		{of(0, 1), of(1, 0), of(most, 1), 1},
		{of(0, 0), of(most, most), of(0, 1), 1},
		{of(most, most), of(most, most), of(0, 0), 0},
	} {
		if rest, under := Sub(x.a, x.b); rest != x.rest || under != x.under {
			t.Errorf("%d: Sub(%v, %v) is %v, %d", i, x.a, x.b, rest, under)
		}
	}
}

func TestComparisonsAtEdges(t *testing.T) { // P1.1
	for i, x := range []struct {
		a, b api.Wide
		cmp  int
	}{
		{of(0, 0), of(0, 0), 0},
		{of(most, most), of(most, most), 0},
		{of(0, 1), of(0, 2), -1},
		{of(0, most), of(1, 0), -1},
		{of(1, 0), of(0, most), 1},
		{of(1<<63, 0), of(1, 0), 1},
		{of(7, 1<<63), of(7, 1), 1},
	} {
		if cmp := Cmp(x.a, x.b); cmp != x.cmp {
			t.Errorf("%d: Cmp(%v, %v) is %d", i, x.a, x.b, cmp)
		}
	}
}

func TestSumsAreThoseOfBigNumbers(t *testing.T) { // P1.1
	for _, a := range wides() {
		for _, b := range wides() {
			x, y := bigOf(a), bigOf(b)
			total, wantOver := new(big.Int).Add(x, y), uint64(0)
			if total.Cmp(power()) >= 0 {
				total.Sub(total, power())
				wantOver = 1
			}
			if sum, over := Add(a, b); sum != wideOf(total) || over != wantOver {
				t.Fatalf("Add(%v, %v) is %v, %d", a, b, sum, over)
			}
			less, wantUnder := new(big.Int).Sub(x, y), uint64(0)
			if less.Sign() < 0 {
				less.Add(less, power())
				wantUnder = 1
			}
			if rest, under := Sub(a, b); rest != wideOf(less) || under != wantUnder {
				t.Fatalf("Sub(%v, %v) is %v, %d", a, b, rest, under)
			}
			if cmp := Cmp(a, b); cmp != x.Cmp(y) {
				t.Fatalf("Cmp(%v, %v) is %d", a, b, cmp)
			}
		}
	}
}

func TestProducts(t *testing.T) { // P1.2
	for i, x := range []struct {
		x, y    uint64
		product api.Wide
	}{
		{1 << 63, 6, of(3, 0)}, // the chapter's example
		{0, most, of(0, 0)},
		{1, most, of(0, most)},
		{1 << 32, 1 << 32, of(1, 0)},
		{most, most, of(most-1, 1)},
	} {
		if product := Mul(x.x, x.y); product != x.product {
			t.Errorf("%d: Mul(%d, %d) is %v", i, x.x, x.y, product)
		}
	}
	for _, x := range words() {
		for _, y := range words() {
			want := new(big.Int).SetUint64(x)
			want.Mul(want, new(big.Int).SetUint64(y))
			if product := Mul(x, y); product != wideOf(want) {
				t.Errorf("Mul(%d, %d) is %v", x, y, product)
			}
		}
	}
}

func TestQuotients(t *testing.T) { // P1.2
	for i, x := range []struct {
		a     api.Wide
		d     uint64
		times api.Wide
		left  uint64
	}{
		{of(3, 1), 6, of(0, 1<<63), 1}, // the chapter's example
		{of(0, 0), 7, of(0, 0), 0},
		{of(0, 6), 7, of(0, 0), 6},
		{of(0, 7), 7, of(0, 1), 0},
		{of(5, 0), 2, of(2, 1<<63), 0},
		{of(most, most), 1, of(most, most), 0},
		{of(most, most), most, of(1, 1), 0},
		{of(most, most), 1 << 63, of(1, most), 1<<63 - 1},
	} {
		if times, left, err := Div(x.a, x.d); times != x.times || left != x.left || err != api.OK {
			t.Errorf("%d: Div(%v, %d) is %v, %d, %d", i, x.a, x.d, times, left, err)
		}
	}
	for _, a := range wides() {
		for _, d := range words() {
			if d == 0 {
				continue
			}
			wantTimes, wantLeft := new(big.Int).QuoRem(bigOf(a), new(big.Int).SetUint64(d), new(big.Int))
			if times, left, err := Div(a, d); times != wideOf(wantTimes) || left != wantLeft.Uint64() || err != api.OK {
				t.Fatalf("Div(%v, %d) is %v, %d, %d", a, d, times, left, err)
			}
		}
	}
}

func TestQuotientsByNothing(t *testing.T) { // P1.2, R1
	for _, a := range wides() {
		if times, left, err := Div(a, 0); times != (api.Wide{}) || left != 0 || err != api.ErrArg {
			t.Fatalf("Div(%v, 0) is %v, %d, %d", a, times, left, err)
		}
	}
}

func TestShiftsAtEdges(t *testing.T) { // P1.3
	a := of(1<<63|2, 1<<63|5)
	for i, x := range []struct {
		n           int
		left, right api.Wide
	}{
		{math.MinInt, a, a},
		{-1, a, a},
		{0, a, a},
		{1, of(5, 10), of(1<<62|1, 1<<62|2)},
		{63, of(1<<62|2, 1<<63), of(1, 5)},
		{64, of(1<<63|5, 0), of(0, 1<<63|2)},
		{65, of(10, 0), of(0, 1<<62|1)},
		{127, of(1<<63, 0), of(0, 1)},
		{128, of(0, 0), of(0, 0)},
		{192, of(0, 0), of(0, 0)},
		{math.MaxInt, of(0, 0), of(0, 0)},
	} {
		if left, right := Left(a, x.n), Right(a, x.n); left != x.left || right != x.right {
			t.Errorf("%d: by %d: %v, %v", i, x.n, left, right)
		}
	}
}

func TestShiftsAreThoseOfBigNumbers(t *testing.T) { // P1.3
	top := new(big.Int).Sub(power(), big.NewInt(1))
	for _, a := range wides() {
		for n := 0; n < 200; n++ {
			up := new(big.Int).Lsh(bigOf(a), uint(n))
			if left := Left(a, n); left != wideOf(up.And(up, top)) {
				t.Fatalf("Left(%v, %d) is %v", a, n, left)
			}
			if right := Right(a, n); right != wideOf(new(big.Int).Rsh(bigOf(a), uint(n))) {
				t.Fatalf("Right(%v, %d) is %v", a, n, right)
			}
		}
	}
}

func TestShiftsByWhatIsNoPlace(t *testing.T) { // P1.3
	for _, a := range wides() {
		for _, n := range shifts() {
			left, right := Left(a, n), Right(a, n)
			if n <= 0 && (left != a || right != a) {
				t.Fatalf("%v by %d: %v, %v", a, n, left, right)
			}
			if n > 127 && (left != of(0, 0) || right != of(0, 0)) {
				t.Fatalf("%v by %d: %v, %v", a, n, left, right)
			}
		}
	}
}

func TestLen(t *testing.T) { // P1.3
	for i, x := range []struct {
		a api.Wide
		n int
	}{
		{of(0, 0), 0},
		{of(0, 1), 1},
		{of(0, 255), 8},
		{of(0, 1<<63), 64},
		{of(0, most), 64},
		{of(1, 0), 65},
		{of(1, most), 65},
		{of(1<<63, 0), 128},
		{of(most, most), 128},
	} {
		if n := Len(x.a); n != x.n {
			t.Errorf("%d: Len(%v) is %d", i, x.a, n)
		}
	}
	for _, a := range wides() {
		if n := Len(a); n != bigOf(a).BitLen() {
			t.Fatalf("Len(%v) is %d", a, n)
		}
	}
}

func TestWhatIsAddedIsTakenAway(t *testing.T) { // P1.4
	for _, a := range wides() {
		for _, b := range wides() {
			sum, over := Add(a, b)
			if back, under := Sub(sum, b); back != a || under != over {
				t.Fatalf("%v and %v are %v, %d; less that: %v, %d", a, b, sum, over, back, under)
			}
		}
	}
}

func TestProductsAreDivided(t *testing.T) { // P1.4
	for _, x := range words() {
		for _, y := range words() {
			for _, more := range words() {
				if more >= y {
					continue
				}
				a, over := Add(Mul(x, y), of(0, more))
				times, left, err := Div(a, y)
				if over != 0 || times != of(0, x) || left != more || err != api.OK {
					t.Fatalf("%d times %d and %d: %v, %d, %d", x, y, more, times, left, err)
				}
			}
		}
	}
}

func TestShiftsComeBack(t *testing.T) { // P1.4
	for _, a := range wides() {
		for n := 0; n <= 128-Len(a); n++ {
			if back := Right(Left(a, n), n); back != a {
				t.Fatalf("%v by %d and back is %v", a, n, back)
			}
		}
	}
}
