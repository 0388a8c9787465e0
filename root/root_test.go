package root

import (
	"math"
	"math/big"
	"slices"
	"testing"

	"pacemaker/api"
)

const (
	one  = api.One
	top  = api.Top
	most = math.MaxUint64
	half = math.MaxUint32 // the greatest root of a number of 64 bits
)

func of(hi, lo uint64) api.Wide { return api.Wide{Hi: hi, Lo: lo} }

// words are each power of two, what is beside it, and some others, from 0 up.
func words() []uint64 {
	l := []uint64{0, 5, 6, 7, 24, 25, 26, 99, 100, 1000003, 6074000999, 6074001000, 0x9e3779b97f4a7c15, half * half, half*half - 1, most - 1, most}
	for n := range 64 {
		l = append(l, 1<<n-1, 1<<n, 1<<n+1)
	}
	slices.Sort(l)
	return slices.Compact(l)
}

// wides are all pairs of words, from 0 up.
func wides() []api.Wide {
	var l []api.Wide
	for _, hi := range words() {
		for _, lo := range words() {
			l = append(l, of(hi, lo))
		}
	}
	return l
}

// above are the words that are ints, from 1 to the greatest one: fixed numbers, their end, and what is beyond it.
func above() []int {
	var l []int
	for _, x := range words() {
		if x > 0 && x <= math.MaxInt {
			l = append(l, int(x))
		}
	}
	return l
}

func bigWord(x uint64) *big.Int { return new(big.Int).SetUint64(x) }

func bigOf(a api.Wide) *big.Int {
	b := new(big.Int).Lsh(bigWord(a.Hi), 64)
	return b.Add(b, bigWord(a.Lo))
}

// square is x times itself.
func square(x uint64) *big.Int { return new(big.Int).Mul(bigWord(x), bigWord(x)) }

func wideOf(b *big.Int) api.Wide {
	return of(new(big.Int).Rsh(b, 64).Uint64(), new(big.Int).And(b, bigWord(most)).Uint64())
}

// isRoot is P3.2 word for word: the square is not above a, and that of the next number is. (That of 18446744073709551616 is above all.)
func isRoot(root uint64, a *big.Int) bool {
	next := new(big.Int).Add(bigWord(root), big.NewInt(1))
	return square(root).Cmp(a) <= 0 && next.Mul(next, next).Cmp(a) > 0
}

func TestLog(t *testing.T) { // P3.1
	for i, x := range []struct {
		x uint64
		n int
	}{
		{0, -1}, // the chapter's examples
		{255, 7},
		{256, 8},
		{1, 0},
		{2, 1},
		{3, 1},
		{4, 2},
		{257, 8},
		{1<<32 - 1, 31},
		{1 << 32, 32},
		{1<<63 - 1, 62},
		{1 << 63, 63},
		{most, 63},
	} {
		if n := Log(x.x); n != x.n {
			t.Errorf("%d: Log(%d) is %d", i, x.x, n)
		}
	}
	for _, x := range words() {
		if n := Log(x); n != bigWord(x).BitLen()-1 {
			t.Errorf("Log(%d) is %d", x, n)
		}
	}
}

func TestSqrt(t *testing.T) { // P3.2
	for i, x := range []struct{ x, root uint64 }{
		{24, 4}, // the chapter's examples
		{25, 5},
		{0, 0},
		{1, 1},
		{2, 1},
		{3, 1},
		{4, 2},
		{8, 2},
		{9, 3},
		{1<<62 - 1, 1<<31 - 1},
		{1 << 62, 1 << 31},
		{1 << 63, 3037000499},
		{half*half - 1, half - 1},
		{half * half, half},
		{most, half},
	} {
		if root := Sqrt(x.x); root != x.root {
			t.Errorf("%d: Sqrt(%d) is %d", i, x.x, root)
		}
	}
	for x := range uint64(70000) {
		if root := Sqrt(x); !isRoot(root, bigWord(x)) {
			t.Fatalf("Sqrt(%d) is %d", x, root)
		}
	}
	for _, x := range words() {
		if root := Sqrt(x); !isRoot(root, bigWord(x)) {
			t.Errorf("Sqrt(%d) is %d", x, root)
		}
	}
}

func TestSqrtWide(t *testing.T) { // P3.2
	for i, x := range []struct {
		a    api.Wide
		root uint64
	}{
		{of(0, 0), 0},
		{of(0, 24), 4},
		{of(0, 25), 5},
		{of(0, most), half},
		{of(1, 0), 1 << 32},
		{of(1, 1<<33), 1 << 32},
		{of(1, 1<<33+1), 1<<32 + 1},
		{of(2, 0), 6074000999},
		{of(1<<62, 0), 1 << 63},
		{of(1<<62-1, most), 1<<63 - 1},
		{of(most-1, 0), most - 1},
		{of(most-1, 1), most}, // the greatest square
		{of(most, most), most},
	} {
		if root := SqrtWide(x.a); root != x.root {
			t.Errorf("%d: SqrtWide(%v) is %d", i, x.a, root)
		}
	}
	for _, a := range wides() {
		if root := SqrtWide(a); !isRoot(root, bigOf(a)) {
			t.Fatalf("SqrtWide(%v) is %d", a, root)
		}
	}
}

func TestRoot(t *testing.T) { // P3.3
	for i, x := range []struct{ a, root int }{
		{2 * one, 1482910}, // the chapter's example
		{1, 1 << 10},
		{2, 1448},
		{one / 4, one / 2},
		{one - 1, one - 1},
		{one, one},
		{one + 1, one},
		{one + 2, one}, // the square of the next number is 1 part above it
		{one + 3, one + 1},
		{9 * one / 4, 3 * one / 2},
		{4*one - 1, 2*one - 1},
		{4 * one, 2 * one},
		{1 << 44, 1 << 32}, // times 1048576 this is 0, if it wraps round
		{top - 1, 1<<41 - 1},
		{top, 1 << 41},
	} {
		if root := Root(x.a); root != x.root {
			t.Errorf("%d: Root(%d) is %d", i, x.a, root)
		}
	}
	for _, a := range above() {
		parts := new(big.Int).Mul(big.NewInt(int64(min(a, top))), big.NewInt(one))
		if root := Root(a); root < 0 || root > top || !isRoot(uint64(root), parts) {
			t.Errorf("Root(%d) is %d", a, root)
		}
	}
}

func TestRootsOfWhatHasNone(t *testing.T) { // P3.3
	for _, a := range []int{0, -1, -one, -4 * one, -top, -top - 1, math.MinInt + 1, math.MinInt} {
		if root := Root(a); root != 0 {
			t.Errorf("Root(%d) is %d", a, root)
		}
	}
}

func TestRootsOfWhatIsNoFixedNumber(t *testing.T) { // P3.3
	for _, a := range []int{top + 1, top + 1<<42, math.MaxInt - 1, math.MaxInt} {
		if root := Root(a); root != Root(top) {
			t.Errorf("Root(%d) is %d", a, root)
		}
	}
}

func TestMean(t *testing.T) { // P3.4
	for i, x := range []struct{ x, y, mean uint64 }{
		{2, 8, 4}, // the chapter's example
		{8, 2, 4},
		{0, 0, 0},
		{0, most, 0},
		{3, 5, 3},
		{1, 1, 1},
		{1, most, half},
		{1 << 32, 1 << 32, 1 << 32}, // a product beyond 64 bits
		{most, 4, 1<<33 - 1},
		{most, most - 1, most - 1},
		{most, most, most},
	} {
		if mean := Mean(x.x, x.y); mean != x.mean {
			t.Errorf("%d: Mean(%d, %d) is %d", i, x.x, x.y, mean)
		}
	}
	for _, x := range words() {
		for _, y := range words() {
			product := new(big.Int).Mul(bigWord(x), bigWord(y))
			if mean := Mean(x, y); !isRoot(mean, product) || mean != SqrtWide(wideOf(product)) {
				t.Fatalf("Mean(%d, %d) is %d", x, y, mean)
			}
		}
	}
}

func TestRootsOfSquares(t *testing.T) { // P3.5
	for _, x := range words() {
		if root := SqrtWide(wideOf(square(x))); root != x {
			t.Errorf("of the square of %d: %d", x, root)
		}
		if x <= half && Sqrt(x*x) != x {
			t.Errorf("of the square of %d: %d", x, Sqrt(x*x))
		}
		if mean := Mean(x, x); mean != x {
			t.Errorf("of %d and itself: %d", x, mean)
		}
	}
	for n := range 1 << 11 {
		// Squares of whole numbers are whole numbers.
		if root := Root(n * n * one); root != n*one {
			t.Errorf("of the square of %d: %d", n, root)
		}
	}
}

func TestRootsGrow(t *testing.T) { // P3.5
	all, pairs := words(), wides()
	for i, x := range all[1:] {
		if Log(x) < Log(all[i]) || Sqrt(x) < Sqrt(all[i]) {
			t.Errorf("of %d: %d, %d", x, Log(x), Sqrt(x))
		}
	}
	for i, a := range pairs[1:] {
		if SqrtWide(a) < SqrtWide(pairs[i]) {
			t.Fatalf("of %v: %d", a, SqrtWide(a))
		}
	}
	last := 0
	for _, a := range above() {
		if Root(a) < last {
			t.Errorf("of %d: %d", a, Root(a))
		}
		last = Root(a)
	}
}

func TestMeansAreBetween(t *testing.T) { // P3.5
	for _, x := range words() {
		for _, y := range words() {
			mean := Mean(x, y)
			if mean < min(x, y) || mean > max(x, y) || mean != Mean(y, x) {
				t.Fatalf("of %d and %d: %d, %d", x, y, mean, Mean(y, x))
			}
		}
	}
}
