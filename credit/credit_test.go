package credit

import (
	"math"
	"math/big"
	"slices"
	"testing"

	"pacemaker/api"
)

const (
	million  = 1000000
	top      = 4611686018427387904
	lastTime = 1099511627776
	most     = math.MaxInt
	least    = math.MinInt
)

// of is the credit of a time that has so much.
func of(at, have int) api.Credit { return api.Credit{At: at, Have: have} }

// isTimeOf is what chapter 9 calls a time, word for word.
func isTimeOf(at int) bool { return at >= 0 && at <= 1099511627776 }

// isBurstOf is what the chapter calls a burst.
func isBurstOf(burst int) bool { return burst >= 1 && burst <= 1048576 }

// isOf is what the chapter calls right, word for word.
func isOf(burst int, x api.Credit) bool {
	return isBurstOf(burst) && isTimeOf(x.At) && x.Have >= 0 && x.Have <= burst*1000000
}

// newOf is P25.1 word for word.
func newOf(burst, at int) (api.Credit, api.Errno) {
	if !isBurstOf(burst) {
		return of(0, 0), api.ErrArg
	}
	if !isTimeOf(at) {
		return of(0, 0), api.ErrSpan
	}
	return of(at, burst*1000000), api.OK
}

func bigOf(n int) *big.Int { return big.NewInt(int64(n)) }

func product(a, b int) *big.Int { return new(big.Int).Mul(bigOf(a), bigOf(b)) }

// fillOf is P25.2 word for word.
func fillOf(burst int, x api.Credit, rate, at int) (api.Credit, api.Errno) {
	if !isOf(burst, x) {
		return of(0, 0), api.ErrArg
	}
	if rate < 1 || rate > 1000000000 {
		return of(0, 0), api.ErrRate
	}
	if !isTimeOf(at) || at < x.At {
		return of(0, 0), api.ErrSpan
	}
	sum := product(rate, at-x.At)
	sum.Add(sum, bigOf(x.Have))
	if end := bigOf(burst * 1000000); sum.Cmp(end) > 0 {
		sum = end
	}
	return of(at, int(sum.Int64())), api.OK
}

// takeOf is P25.3 word for word.
func takeOf(burst int, x api.Credit, size int) (api.Credit, api.Errno) {
	if !isOf(burst, x) {
		return of(0, 0), api.ErrArg
	}
	if size < 1 || size > 9000 {
		return of(0, 0), api.ErrSize
	}
	if x.Have < size*1000000 {
		return of(0, 0), api.ErrEarly
	}
	return of(x.At, x.Have-size*1000000), api.OK
}

// waitsOf is P25.4 word for word: whether n is what it asks for.
func waitsOf(x api.Credit, rate, size, n int) bool {
	missing := product(size, 1000000)
	missing.Sub(missing, bigOf(x.Have))
	if missing.Sign() <= 0 || size <= 0 {
		return n == 0
	}
	if rate <= 0 {
		return n == top
	}
	// The least one by which enough comes is it, or Top, if that is not enough.
	ahead := product(n-1, rate)
	return n > 0 && n <= top && ahead.Cmp(missing) < 0 && (n == top || product(n, rate).Cmp(missing) >= 0)
}

// edges are 0, the ends of all kinds, what is beside them, and some others.
func edges() []int {
	l := []int{least, least + 1, most - 1, most}
	for _, n := range []int{0, 3, 7, 1500, 9000, million, 1500 * million, 1 << 20, 1000 * million, 9000 * million, lastTime, million << 20, 1 << 52, top / million, most / million, top / 2, top} {
		for beside := -1; beside <= 1; beside++ {
			l = append(l, n+beside, -n+beside)
		}
	}
	slices.Sort(l)
	return slices.Compact(l)
}

// bursts are both ends, some between them, and what is beyond.
func bursts() []int {
	return []int{least, -million, -1, 0, 1, 2, 3000, 9000, 1<<20 - 1, 1 << 20, 1<<20 + 1, 1 << 44, most / million, most / million * 2, top, most}
}

// credits are ones that are right by a burst, at the ends of all that they have, and some that are not.
func credits(burst int) []api.Credit {
	var l []api.Credit
	for _, at := range []int{least, -1, 0, 1, 1500, lastTime - 1, lastTime, lastTime + 1, most} {
		for _, have := range []int{least, -1, 0, 1, million - 1, million, burst*million/2 + 1, burst*million - 1, burst * million, burst*million + 1, most} {
			l = append(l, of(at, have))
		}
	}
	return l
}

// random makes the same numbers at each run.
type random uint64

func (r *random) below(n int) int {
	*r = *r*6364136223846793005 + 1442695040888963407
	return int(uint64(*r)>>33) % n
}

// size is any int that is not below 0, small or great.
func (r *random) size() int {
	return (r.below(1<<31)<<32 | r.below(1<<31)<<1 | r.below(2)) >> r.below(63)
}

// any is any int, small or great, of both signs.
func (r *random) any() int {
	n := r.size()
	if r.below(2) == 0 {
		return ^n
	}
	return n
}

// upTo is one from least to greatest, small or great, or now and then any int.
func (r *random) upTo(least, greatest int) int {
	if r.below(12) == 0 {
		return r.any()
	}
	return least + r.size()%(greatest-least+1)
}

func (r *random) burst() int { return r.upTo(1, 1<<20) }

func (r *random) rate() int { return r.upTo(1, 1000*million) }

func (r *random) time() int { return r.upTo(0, lastTime) }

func (r *random) packet() int { return r.upTo(1, 9000) }

// credit is one that is right by a burst, or wrong in any way.
func (r *random) credit(burst int) api.Credit {
	if !isBurstOf(burst) {
		burst = 1
	}
	return of(r.time(), r.upTo(0, burst*million))
}

// made is what New tells of what is right.
func made(t *testing.T, burst, at int) api.Credit {
	t.Helper()
	x, wrong := New(burst, at)
	if wrong != api.OK {
		t.Fatalf("%d, %d: %d", burst, at, wrong)
	}
	return x
}

func TestTheChaptersExamples(t *testing.T) { // P25.1, P25.2, P25.3, P25.4
	x := made(t, 3000, 0)
	for range 2 {
		var wrong api.Errno
		if x, wrong = Take(3000, x, 1500); wrong != api.OK {
			t.Errorf("%d", wrong)
		}
	}
	if _, wrong := Take(3000, x, 1); wrong != api.ErrEarly {
		t.Errorf("%d", wrong)
	}
	if span := Wait(x, 1000000, 1500); span != 1500 {
		t.Errorf("%d", span)
	}
	if x, wrong := Fill(3000, x, 1000000, 1500); x.Have != 1500000000 || wrong != api.OK {
		t.Errorf("%+v, %d", x, wrong)
	}
}

func TestIs(t *testing.T) { // P25.1
	for _, s := range []struct {
		burst int
		x     api.Credit
		want  bool
	}{
		{1, of(0, 0), true},
		{1, of(0, 1), true},
		{1, of(0, million), true},
		{1, of(0, million+1), false},
		{1, of(0, -1), false},
		{1, of(0, least), false},
		{1, of(0, most), false},
		{2, of(0, million+1), true}, // of another burst it is
		{2, of(0, 2*million), true},
		{2, of(0, 2*million+1), false},
		{3000, of(5, 3000*million), true},
		{2999, of(5, 3000*million), false},
		{1, of(lastTime, 0), true},
		{1, of(lastTime+1, 0), false},
		{1, of(-1, 0), false},
		{1, of(least, 0), false},
		{1, of(most, 0), false},
		{0, of(0, 0), false},
		{-1, of(0, 0), false},
		{-1, of(0, -1), false},
		{least, of(0, 0), false},
		{1 << 20, of(lastTime, million<<20), true},
		{1 << 20, of(0, million<<20+1), false},
		{1<<20 + 1, of(0, 0), false},
		{1<<20 + 1, of(0, million<<20), false},
		{1 << 44, of(0, 0), false},
		{1 << 63 / million, of(0, 0), false},
		{most, of(0, 0), false},
	} {
		if Is(s.burst, s.x) != s.want {
			t.Errorf("%d, %+v: not %t", s.burst, s.x, s.want)
		}
	}
}

func TestIsWordForWord(t *testing.T) { // P25.1
	for _, burst := range bursts() {
		for _, of := range bursts() {
			for _, x := range credits(of) {
				if Is(burst, x) != isOf(burst, x) {
					t.Fatalf("%d, %+v: not %t", burst, x, isOf(burst, x))
				}
			}
		}
	}
	r := random(25)
	for range 50000 {
		burst := r.burst()
		if x := r.credit(burst); Is(burst, x) != isOf(burst, x) {
			t.Fatalf("%d, %+v: not %t", burst, x, isOf(burst, x))
		}
	}
}

func TestNew(t *testing.T) { // P25.1
	for _, s := range []struct {
		burst, at int
		want      api.Credit
		wrong     api.Errno
	}{
		{1, 0, of(0, million), api.OK},
		{3000, 0, of(0, 3000*million), api.OK},
		{3000, 7, of(7, 3000*million), api.OK},
		{1 << 20, lastTime, of(lastTime, 1048576000000), api.OK},
		{0, 0, of(0, 0), api.ErrArg},
		{-1, 0, of(0, 0), api.ErrArg},
		{least, 0, of(0, 0), api.ErrArg},
		{1<<20 + 1, 0, of(0, 0), api.ErrArg},
		{most, 0, of(0, 0), api.ErrArg},
		{1, -1, of(0, 0), api.ErrSpan},
		{1, least, of(0, 0), api.ErrSpan},
		{1 << 20, lastTime + 1, of(0, 0), api.ErrSpan},
		{1, most, of(0, 0), api.ErrSpan},
		// Of both the burst is named first.
		{0, -1, of(0, 0), api.ErrArg},
		{1<<20 + 1, lastTime + 1, of(0, 0), api.ErrArg},
	} {
		if x, wrong := New(s.burst, s.at); x != s.want || wrong != s.wrong {
			t.Errorf("%+v: %+v, %d", s, x, wrong)
		}
	}
}

func TestNewWordForWord(t *testing.T) { // P25.1
	for _, burst := range append(edges(), bursts()...) {
		for _, at := range edges() {
			x, wrong := New(burst, at)
			if want, code := newOf(burst, at); x != want || wrong != code {
				t.Fatalf("%d, %d: %+v, %d, not %+v, %d", burst, at, x, wrong, want, code)
			}
			if wrong == api.OK && !Is(burst, x) {
				t.Fatalf("%d, %d: %+v is not right", burst, at, x)
			}
		}
	}
}

func TestFill(t *testing.T) { // P25.2
	for _, s := range []struct {
		burst    int
		x        api.Credit
		rate, at int
		want     api.Credit
		wrong    api.Errno
	}{
		{3000, of(0, 0), 1000000, 1500, of(1500, 1500*million), api.OK},
		{3000, of(0, 0), 1000000, 2999, of(2999, 2999*million), api.OK},
		{3000, of(0, 0), 1000000, 3000, of(3000, 3000*million), api.OK},
		{3000, of(0, 0), 1000000, 3001, of(3001, 3000*million), api.OK}, // no more than the burst
		{3000, of(5, 7), 3, 9, of(9, 19), api.OK},
		{3000, of(5, 7), 3, 5, of(5, 7), api.OK}, // no span, no more
		{3000, of(5, 7), 1000000000, 5, of(5, 7), api.OK},
		{1, of(0, 1), 1, million - 1, of(million-1, million), api.OK},
		{1, of(0, 0), 1, million - 1, of(million-1, million-1), api.OK},
		{1, of(0, million), 1, 1, of(1, million), api.OK},
		{1, of(0, 0), 1000000000, 1, of(1, million), api.OK},
		{1 << 20, of(0, 1), 1, lastTime, of(lastTime, 1048576000000), api.OK},
		{1 << 20, of(0, 0), 1000000000, 1048, of(1048, 1048*1000*million), api.OK},
		{1 << 20, of(0, 0), 1000000000, 1049, of(1049, 1048576000000), api.OK},
		// What comes may be more than an int holds, and, without what it can't hold, be nothing.
		{3000, of(0, 0), 1000000000, lastTime, of(lastTime, 3000*million), api.OK},
		{1 << 20, of(0, 0), 1 << 25, 1 << 39, of(1<<39, 1048576000000), api.OK},
		{1 << 20, of(0, 5), 1 << 24, 1 << 40, of(1<<40, 1048576000000), api.OK},
		{1 << 20, of(0, 0), 1 << 23, 1 << 40, of(1<<40, 1048576000000), api.OK},
		{1, of(lastTime, 0), 1, lastTime, of(lastTime, 0), api.OK},
		{3000, of(5, 7), 0, 9, of(0, 0), api.ErrRate},
		{3000, of(5, 7), -1, 9, of(0, 0), api.ErrRate},
		{3000, of(5, 7), least, 9, of(0, 0), api.ErrRate},
		{3000, of(5, 7), 1000000001, 9, of(0, 0), api.ErrRate},
		{3000, of(5, 7), most, 9, of(0, 0), api.ErrRate},
		{3000, of(5, 7), 3, 4, of(0, 0), api.ErrSpan},
		{3000, of(5, 7), 3, -1, of(0, 0), api.ErrSpan},
		{3000, of(5, 7), 3, least, of(0, 0), api.ErrSpan},
		{3000, of(5, 7), 3, lastTime + 1, of(0, 0), api.ErrSpan},
		{3000, of(5, 7), 3, most, of(0, 0), api.ErrSpan},
		{3000, of(lastTime, 7), 3, lastTime - 1, of(0, 0), api.ErrSpan},
		{3000, of(0, 7), 3, -1, of(0, 0), api.ErrSpan},
		{3000, of(5, -1), 3, 9, of(0, 0), api.ErrArg},
		{3000, of(-1, 0), 3, 9, of(0, 0), api.ErrArg},
		{3000, of(5, 3000*million+1), 3, 9, of(0, 0), api.ErrArg},
		{2999, of(5, 3000*million), 3, 9, of(0, 0), api.ErrArg},
		{0, of(5, 0), 3, 9, of(0, 0), api.ErrArg},
		{1<<20 + 1, of(5, 0), 3, 9, of(0, 0), api.ErrArg},
		{most, of(5, 0), 3, 9, of(0, 0), api.ErrArg},
		// Of several the one that is named first counts.
		{3000, of(5, -1), 0, 4, of(0, 0), api.ErrArg},
		{3000, of(5, -1), 3, 4, of(0, 0), api.ErrArg},
		{3000, of(-2, 0), 0, -3, of(0, 0), api.ErrArg},
		{0, of(5, 0), 0, 9, of(0, 0), api.ErrArg},
		{3000, of(5, 7), 0, 4, of(0, 0), api.ErrRate},
		{3000, of(5, 7), 1000000001, lastTime + 1, of(0, 0), api.ErrRate},
	} {
		if x, wrong := Fill(s.burst, s.x, s.rate, s.at); x != s.want || wrong != s.wrong {
			t.Errorf("%+v: %+v, %d", s, x, wrong)
		}
	}
}

// filledAsAsked holds a Fill against P25.2.
func filledAsAsked(t *testing.T, burst int, x api.Credit, rate, at int) {
	t.Helper()
	y, wrong := Fill(burst, x, rate, at)
	if want, code := fillOf(burst, x, rate, at); y != want || wrong != code {
		t.Fatalf("%d, %+v, %d, %d: %+v, %d, not %+v, %d", burst, x, rate, at, y, wrong, want, code)
	}
	if wrong == api.OK && !Is(burst, y) {
		t.Fatalf("%d, %+v, %d, %d: %+v is not right", burst, x, rate, at, y)
	}
}

func TestFillWordForWord(t *testing.T) { // P25.2
	rates := []int{least, -1, 0, 1, 3, million, 1 << 23, 1 << 25, 1000*million - 1, 1000 * million, 1000*million + 1, most}
	times := []int{least, -1, 0, 1, 2, 1499, 1500, million, 1 << 39, lastTime - 1, lastTime, lastTime + 1, most}
	for _, burst := range bursts() {
		for _, x := range credits(burst) {
			for _, rate := range rates {
				for _, at := range times {
					filledAsAsked(t, burst, x, rate, at)
				}
			}
		}
	}
	r := random(2)
	for range 50000 {
		burst := r.burst()
		filledAsAsked(t, burst, r.credit(burst), r.rate(), r.time())
	}
}

func TestFillNearTheBurst(t *testing.T) { // P25.2
	r := random(3)
	for range 20000 {
		burst, rate := 1+r.size()%(1<<20), 1+r.size()%(1000*million)
		// So long, that there is just as much, or some microseconds' less, or more.
		x := of(r.below(1000), r.size()%(burst*million+1))
		span := max((burst*million-x.Have)/rate+r.below(5)-2, 0)
		filledAsAsked(t, burst, x, rate, x.At+span)
	}
}

func TestTake(t *testing.T) { // P25.3
	for _, s := range []struct {
		burst int
		x     api.Credit
		size  int
		want  api.Credit
		wrong api.Errno
	}{
		{3000, of(0, 3000*million), 1500, of(0, 1500*million), api.OK},
		{3000, of(0, 1500*million), 1500, of(0, 0), api.OK},
		{3000, of(4, 1500*million+7), 1500, of(4, 7), api.OK},
		{3000, of(4, 1500*million-1), 1500, of(0, 0), api.ErrEarly},
		{3000, of(4, 0), 1, of(0, 0), api.ErrEarly},
		{3000, of(4, million-1), 1, of(0, 0), api.ErrEarly},
		{3000, of(4, million), 1, of(4, 0), api.OK},
		{3000, of(4, 3000*million), 3000, of(4, 0), api.OK},
		{3000, of(4, 3000*million), 3001, of(0, 0), api.ErrEarly}, // more than a burst
		{3000, of(4, 3000*million), 9000, of(0, 0), api.ErrEarly},
		{9000, of(lastTime, 9000*million), 9000, of(lastTime, 0), api.OK},
		{1 << 20, of(0, million<<20), 9000, of(0, (1<<20-9000)*million), api.OK},
		{1 << 20, of(0, million<<20), 9001, of(0, 0), api.ErrSize},
		{1 << 20, of(0, million<<20), 0, of(0, 0), api.ErrSize},
		{1 << 20, of(0, million<<20), -1, of(0, 0), api.ErrSize},
		{1 << 20, of(0, million<<20), least, of(0, 0), api.ErrSize},
		{1 << 20, of(0, million<<20), most, of(0, 0), api.ErrSize},
		{1 << 20, of(0, million<<20), 1 << 58, of(0, 0), api.ErrSize}, // whose millionths, in an int, are 0
		{3000, of(0, 3000*million+1), 1, of(0, 0), api.ErrArg},
		{2999, of(0, 3000*million), 1, of(0, 0), api.ErrArg},
		{3000, of(0, -1), 1, of(0, 0), api.ErrArg},
		{3000, of(-1, 3000), 1, of(0, 0), api.ErrArg},
		{3000, of(lastTime+1, 3000), 1, of(0, 0), api.ErrArg},
		{0, of(0, 0), 1, of(0, 0), api.ErrArg},
		{1<<20 + 1, of(0, million), 1, of(0, 0), api.ErrArg},
		{most, of(0, million), 1, of(0, 0), api.ErrArg},
		// Of several the one that is named first counts.
		{3000, of(0, -1), 0, of(0, 0), api.ErrArg},
		{3000, of(0, -1), 9001, of(0, 0), api.ErrArg},
		{3000, of(0, 0), 0, of(0, 0), api.ErrSize},
		{3000, of(0, 0), 9001, of(0, 0), api.ErrSize},
	} {
		if x, wrong := Take(s.burst, s.x, s.size); x != s.want || wrong != s.wrong {
			t.Errorf("%+v: %+v, %d", s, x, wrong)
		}
	}
}

// takenAsAsked holds a Take against P25.3.
func takenAsAsked(t *testing.T, burst int, x api.Credit, size int) {
	t.Helper()
	y, wrong := Take(burst, x, size)
	if want, code := takeOf(burst, x, size); y != want || wrong != code {
		t.Fatalf("%d, %+v, %d: %+v, %d, not %+v, %d", burst, x, size, y, wrong, want, code)
	}
	if wrong == api.OK && !Is(burst, y) {
		t.Fatalf("%d, %+v, %d: %+v is not right", burst, x, size, y)
	}
}

func TestTakeWordForWord(t *testing.T) { // P25.3
	for _, burst := range bursts() {
		for _, x := range credits(burst) {
			for _, size := range edges() {
				takenAsAsked(t, burst, x, size)
			}
		}
	}
	r := random(4)
	for range 50000 {
		burst, size := r.burst(), r.packet()
		takenAsAsked(t, burst, r.credit(burst), size)
		// So much, or nearly so much, as is taken.
		takenAsAsked(t, 1<<20, of(r.time(), size*million+r.below(5)-2), size)
	}
}

func TestWait(t *testing.T) { // P25.4
	for _, s := range []struct{ have, rate, size, want int }{
		{0, 1000000, 1500, 1500},
		{1500 * million, 1, 1500, 0},
		{1500*million + 1, 1, 1500, 0},
		{1500*million - 1, 1, 1500, 1},
		{1500*million - 1, 1000000000, 1500, 1}, // there are no parts of a microsecond
		{1500*million - 1000, 1000, 1500, 1},
		{1500*million - 1001, 1000, 1500, 2},
		{1500*million - 2000, 1000, 1500, 2},
		{0, 7, 1, 142858},
		{1, 7, 1, 142857},
		{0, 1000000000, 9000, 9},
		{0, 1, 9000, 9000 * million},
		{0, 1, 9001, 9001 * million}, // nobody asks for a size here
		// A size that is not above 0 needs nothing, whatever there is, and whatever the rate.
		{-5, 1, 0, 0},
		{least, 1, 0, 0},
		{least, 0, 0, 0},
		{least, -1, -1, 0},
		{-2 * million, 1, -1, 0},
		{-2 * million, 0, -1, 0},
		{least, least, least, 0},
		{0, 5, 0, 0},
		{0, 5, least, 0},
		// There is nothing to wait for, where there is enough, whatever the rate.
		{million, 0, 1, 0},
		{million, -1, 1, 0},
		{million, least, 1, 0},
		{most, 5, 1, 0},
		{most, 0, 9223372036854, 0},
		{most, 1, 9223372036855, 224193},
		{most, 0, 9223372036855, top},
		// Nothing comes at no rate.
		{0, 0, 1, top},
		{0, -1, 5, top},
		{million - 1, 0, 1, top},
		{million - 1, least, 1, top},
		{0, least, most, top},
		// What is owed comes on top of it.
		{-5, 1, 1, 1000005},
		{-5, 5, 1, 200001},
		{-5, 6, 1, 166668},
		{least, 1 << 62, 1, 3},
		{least + million, 1 << 62, 1, 2},
		{least + million - 1, 1 << 62, 1, 3},
		{least, most, 1, 2},
		{least, 1, 1, top},
		{least, 1, most, top},
		// Beyond an int, and beyond Top.
		{0, 1, most, top},
		{0, most, most, million},
		{0, most - 1, most, million + 1},
		{least, most, most, million + 2},
		{-most, most, most, million + 1},
		{most, most, most, million - 1},
		{0, 1, 4611686018427, 4611686018427 * million},
		{0, 1, 4611686018428, top},
		{-million, 1, 4611686018426, 4611686018427 * million},
		{-387904, 1, 4611686018427, top},
		{-387903, 1, 4611686018427, top - 1},
		{-387905, 1, 4611686018427, top},
		{-387905, 2, 4611686018427, top/2 + 1},
		{-387904, 2, 4611686018427, top / 2},
		{0, million, top, top},
		{1, million, top, top},
		{million, million, top, top - 1},
		{million - 1, million, top, top},
		{0, million, top - 1, top - 1},
		{-1, million, top - 1, top},
		{0, million, top + 1, top},
		{0, million, most, top},
	} {
		for _, at := range []int{0, 1500, lastTime, least, -1, most} { // it is not asked of when it is
			if span := Wait(of(at, s.have), s.rate, s.size); span != s.want {
				t.Errorf("%+v: %d", s, span)
			}
		}
	}
}

// waitedAsAsked holds a Wait against P25.4.
func waitedAsAsked(t *testing.T, x api.Credit, rate, size int) {
	t.Helper()
	if span := Wait(x, rate, size); !waitsOf(x, rate, size, span) {
		t.Fatalf("%+v, %d, %d: %d", x, rate, size, span)
	}
}

func TestWaitWordForWord(t *testing.T) { // P25.4
	for _, have := range edges() {
		for _, rate := range edges() {
			for _, size := range edges() {
				waitedAsAsked(t, of(0, have), rate, size)
			}
		}
	}
	r := random(5)
	for range 50000 {
		waitedAsAsked(t, of(r.any(), r.any()), r.any(), r.any())
		waitedAsAsked(t, r.credit(9000), r.rate(), r.packet())
		// Nearly enough, and nearly whole microseconds.
		rate, size := 1+r.size()%(1000*million), r.packet()
		waitedAsAsked(t, of(r.any(), size*million+r.below(5)-2), rate, size)
		waitedAsAsked(t, of(r.any(), size*million-rate*r.below(4)+r.below(5)-2), rate, size)
	}
}

// taking is one that takes: how much so far, and by how much rates would have let it.
type taking struct {
	x     api.Credit
	given []int // up to each time that something was taken at, ahead of that
	taken []int // up to each such time, with it
}

// randomTaking is what a burst lets take that goes on by any rates, spans and sizes.
func randomTaking(t *testing.T, r *random, burst, steps int) taking {
	t.Helper()
	w := taking{x: made(t, burst, r.below(1000))}
	given, taken := 0, 0
	for range steps {
		rate, span := 1+r.size()%(1<<20), r.below(1<<r.below(14))
		y, wrong := Fill(burst, w.x, rate, w.x.At+span)
		if wrong != api.OK {
			t.Fatalf("%d, %+v, %d, %d: %d", burst, w.x, rate, span, wrong)
		}
		w.x, given = y, given+rate*span
		for range r.below(4) {
			size := 1 + r.size()%9000
			if y, wrong = Take(burst, w.x, size); wrong == api.OK {
				w.x, taken = y, taken+size*million
				w.given, w.taken = append(w.given, given), append(w.taken, taken)
			}
		}
	}
	return w
}

func TestNoMoreThanTheRatesAndOneBurst(t *testing.T) { // P25.5
	r := random(6)
	takings := 0
	for range 300 {
		burst := 1 + r.size()%(1<<20)
		w := randomTaking(t, &r, burst, 60)
		takings += len(w.taken)
		for i := range w.taken {
			ahead := 0
			if i > 0 {
				ahead = w.taken[i-1]
			}
			for j := i; j < len(w.taken); j++ {
				if w.taken[j]-ahead > w.given[j]-w.given[i]+burst*million {
					t.Fatalf("%d: from %d to %d: %d of %d", burst, i, j, w.taken[j]-ahead, w.given[j]-w.given[i])
				}
			}
		}
	}
	if takings < 1000 {
		t.Errorf("%d", takings)
	}
}

func TestAllThatRatesGiveIsTaken(t *testing.T) { // P25.5
	// One that takes as soon as it may gets all that a rate gives, as long as no burst is full.
	for _, s := range []struct{ burst, rate, size int }{{1, 1, 1}, {3000, 1000000, 1500}, {9000, 7, 9000}, {1500, 999999, 1500}, {1 << 20, 1000000000, 9000}, {3000, 333, 1000}} {
		x := made(t, s.burst, 0)
		taken := 0
		for range 500 {
			y, wrong := Fill(s.burst, x, s.rate, x.At+Wait(x, s.rate, s.size))
			if wrong == api.OK {
				y, wrong = Take(s.burst, y, s.size)
			}
			if wrong != api.OK {
				t.Fatalf("%+v, %+v: %d", s, x, wrong)
			}
			x, taken = y, taken+s.size*million
		}
		rest := s.rate*x.At + s.burst*million - taken
		if x.Have > rest || rest-x.Have > 500*s.rate {
			t.Errorf("%+v: %+v, %d left", s, x, rest)
		}
	}
}

func TestBehindTheWait(t *testing.T) { // P25.5
	r := random(7)
	for range 20000 {
		burst, rate, size := 1+r.size()%(1<<20), 1+r.size()%(1000*million), 1+r.size()%9000
		x := of(r.below(million), r.size()%(burst*million+1))
		span := Wait(x, rate, size)
		for ahead := 0; ahead < 2 && span-ahead >= 0; ahead++ {
			y, wrong := Fill(burst, x, rate, x.At+span-ahead)
			if wrong != api.OK {
				t.Fatalf("%d, %+v, %d, %d: %d", burst, x, rate, size, wrong)
			}
			_, wrong = Take(burst, y, size)
			if enough := ahead == 0 && size <= burst; (wrong == api.OK) != enough || !enough && wrong != api.ErrEarly {
				t.Fatalf("%d, %+v, %d, %d, %d ahead of %d: %d", burst, x, rate, size, ahead, span, wrong)
			}
		}
	}
}

func TestWaitsGoOn(t *testing.T) { // P25.5
	// Some microseconds later one waits so many less.
	r := random(8)
	for range 20000 {
		burst, rate := 1+r.size()%(1<<20), 1+r.size()%(1000*million)
		size := 1 + r.size()%min(burst, 9000)
		x := of(r.below(million), r.size()%(size*million))
		span := Wait(x, rate, size)
		some := r.size() % (span + 1)
		y, wrong := Fill(burst, x, rate, x.At+some)
		if rest := Wait(y, rate, size); wrong != api.OK || rest != span-some {
			t.Fatalf("%d, %+v, %d, %d: %d, %d of %d behind %d", burst, x, rate, size, wrong, rest, span, some)
		}
	}
}

func TestTwoStepsAreOne(t *testing.T) { // P25.5
	r := random(9)
	for range 20000 {
		burst, rate := 1+r.size()%(1<<20), 1+r.size()%(1000*million)
		x := of(r.size()%lastTime, r.size()%(burst*million+1))
		span := r.size() % (lastTime - x.At + 1)
		once, wrong := Fill(burst, x, rate, x.At+span)
		half, first := Fill(burst, x, rate, x.At+r.size()%(span+1))
		twice, second := Fill(burst, half, rate, x.At+span)
		if wrong != api.OK || first != api.OK || second != api.OK || twice != once {
			t.Fatalf("%d, %+v, %d, %d: %+v, not %+v", burst, x, rate, span, twice, once)
		}
	}
}

func TestNothingElseCounts(t *testing.T) { // P25.1, P25.2, P25.3, P25.4
	// All calls, forwards and backwards: what was asked in between changes no answer.
	type told struct {
		is      bool
		x, y, z api.Credit
		span    int
	}
	ask := func(n int) told {
		r := random(n)
		burst := r.burst()
		x := r.credit(burst)
		a := told{is: Is(burst, x), span: Wait(x, r.rate(), r.packet())}
		a.x, _ = New(burst, r.time())
		a.y, _ = Fill(burst, x, r.rate(), r.time())
		a.z, _ = Take(burst, x, r.packet())
		return a
	}
	var l []told
	for n := range 2000 {
		l = append(l, ask(n))
	}
	for n := range l {
		if n = len(l) - 1 - n; ask(n) != l[n] {
			t.Fatalf("%d: %+v, not %+v", n, ask(n), l[n])
		}
	}
}
