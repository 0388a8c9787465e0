package slope

import (
	"math"
	"math/big"
	"testing"

	"pacemaker/account"
	"pacemaker/api"
)

const (
	one    = api.One
	top    = api.Top
	most   = math.MaxUint64
	span   = 60000000
	square = 3600000000000000
	many   = 1024
)

func of(hi, lo uint64) api.Wide { return api.Wide{Hi: hi, Lo: lo} }

func bigInt(n int) *big.Int { return big.NewInt(int64(n)) }

func bigOf(a api.Wide) *big.Int {
	b := new(big.Int).SetUint64(a.Hi)
	return b.Add(b.Lsh(b, 64), new(big.Int).SetUint64(a.Lo))
}

func wideOf(b *big.Int) api.Wide {
	return of(new(big.Int).Rsh(b, 64).Uint64(), new(big.Int).And(b, new(big.Int).SetUint64(most)).Uint64())
}

func product(x, y int) *big.Int { return new(big.Int).Mul(bigInt(x), bigInt(y)) }

// rounded is P10.1 word for word: the next part is as near as the one below, or nearer, from a rest of half of b on.
func rounded(a, b *big.Int) int {
	switch {
	case a.Sign() == 0:
		return 0
	case b.Sign() == 0:
		return top
	}
	parts, rest := new(big.Int).QuoRem(new(big.Int).Mul(a, bigInt(one)), b, new(big.Int))
	if rest.Lsh(rest, 1).Cmp(b) >= 0 {
		parts.Add(parts, bigInt(1))
	}
	if parts.Cmp(bigInt(top)) > 0 {
		return top
	}
	return int(parts.Int64())
}

func TestPlacesAreThoseOfOne(t *testing.T) { // P10.1
	if 1<<places != api.One {
		t.Fatalf("%d places", places)
	}
}

func TestRatio(t *testing.T) { // P10.1
	for i, x := range []struct {
		a, b api.Wide
		want int
	}{
		{of(0, 0), of(0, 0), 0}, // of nothing there is nothing, even by nothing
		{of(0, 0), of(0, 1), 0},
		{of(0, 0), of(most, most), 0},
		{of(0, 1), of(0, 0), top},
		{of(1, 0), of(0, 0), top},
		{of(most, most), of(0, 0), top},
		{of(0, 1), of(0, 1), one},
		{of(0, 6), of(0, 3), 2 * one},
		{of(0, 1), of(0, 3), 349525},
		{of(0, 2), of(0, 3), 699051},
		{of(0, 5), of(0, 1<<21), 3}, // 2 parts and a half
		{of(0, 5), of(0, 1<<21+1), 2},
		{of(0, 5), of(0, 1<<21-1), 3},
		{of(0, 3), of(0, 1<<21), 2}, // 1 part and a half
		{of(0, 1), of(0, 1<<21), 1},
		{of(0, 1), of(0, 1<<21+1), 0},
		{of(0, 1), of(0, 1<<22), 0},
		{of(0, 1), of(most, most), 0},
		{of(0, 1<<42-1), of(0, 1), top - one},
		{of(0, 1<<42), of(0, 1), top},
		{of(0, 1<<42+1), of(0, 1), top},
		{of(0, 1<<63), of(0, 1<<21), top},
		{of(0, 1<<63-1), of(0, 1<<21), top}, // half a part below
		{of(0, 1<<63-2), of(0, 1<<21), top - 1},
		{of(0, 1<<63-3), of(0, 1<<21), top - 1}, // a part and a half below
		{of(0, 1<<63-4), of(0, 1<<21), top - 2},
		{of(0, 1<<63+1), of(0, 1<<21), top}, // half a part above
		{of(1, 0), of(0, 1), top},
		{of(1<<63, 0), of(0, 1), top},
		{of(most, most), of(0, 1), top},
		{of(1<<41, 0), of(0, most), 1 << 61},
		{of(1<<42-1, most), of(1, 0), top},
		{of(1<<42-1, 0), of(1, 0), top - one},
		{of(most, most), of(most, most), one},
		{of(most, most-1), of(most, most), one},
		{of(1<<63, 0), of(most, most), one / 2},
		{of(most, most), of(1<<63, 0), 2 * one},
		{of(1<<43, 0), of(1<<63, 1), 1}, // just less than a part
		{of(1<<42, 0), of(1<<63, 0), 1}, // half a part
		{of(1<<42, 0), of(1<<63, 1), 0},
		{of(1<<43, 0), of(most, most), 1}, // just more than half a part
		{of(0, 5), of(1, 0), 0},
		{of(3, 0), of(2, 0), 3 * one / 2},
		{of(0, most), of(1, 0), one},
	} {
		if ratio := Ratio(x.a, x.b); ratio != x.want {
			t.Errorf("%d: %d, not %d", i, ratio, x.want)
		}
	}
}

// wides are zero, each power of two, what is beside it, and some others.
func wides() []api.Wide {
	l := []api.Wide{of(0, 0), of(0, 10), of(0, 1000003), of(0, 0x9e3779b97f4a7c15), of(0x9e3779b97f4a7c15, 0xf39cc0605cedc834), of(1<<63+1, 1<<63+1), of(most, 0)}
	for n := range 128 {
		power := new(big.Int).Lsh(bigInt(1), uint(n))
		for beside := -1; beside <= 1; beside++ {
			l = append(l, wideOf(new(big.Int).Add(power, bigInt(beside))))
		}
	}
	return append(l, of(most, most-1), of(most, most))
}

func TestRatioIsThatOfItsWords(t *testing.T) { // P10.1
	for _, a := range wides() {
		for _, b := range wides() {
			if ratio, want := Ratio(a, b), rounded(bigOf(a), bigOf(b)); ratio != want {
				t.Fatalf("%d by %d: %d, not %d", a, b, ratio, want)
			}
		}
	}
}

// Where roundings turn: a times 2097152 is an odd number times b there, or as near to it as can be.
func TestRatioBesideHalves(t *testing.T) { // P10.1
	turns, exact := 0, 0
	for _, b := range wides() {
		for _, parts := range []int{0, 1, 2, 3, 1000, 349525, one - 1, one, 1 << 40, 1<<61 - 1, 1 << 61, top / 3, top - 2, top - 1, top, top + 1} {
			odd := new(big.Int).Add(product(2, parts), bigInt(1))
			a, left := odd.QuoRem(odd.Mul(odd, bigOf(b)), bigInt(2*one), new(big.Int))
			for _, beside := range []int{-1, 0, 1} {
				x := new(big.Int).Add(a, bigInt(beside))
				if x.Sign() < 0 || x.BitLen() > 128 {
					continue
				}
				turns++
				if beside == 0 && left.Sign() == 0 {
					exact++
				}
				if ratio, want := Ratio(wideOf(x), b), rounded(x, bigOf(b)); ratio != want {
					t.Fatalf("%d by %d: %d, not %d", x, b, ratio, want)
				}
			}
		}
	}
	if turns < 10000 || exact < 1000 {
		t.Errorf("%d turns, %d of them exact", turns, exact)
	}
}

// sample is when a packet was sent, and how long it was on its way.
type sample struct{ t, r int }

// mi is an account with these samples, and a packet that is not told yet; from tells when it began.
func mi(t *testing.T, from int, l []sample) api.Mi {
	t.Helper()
	m, wrong := account.Open(1, from)
	for range len(l) + 1 {
		if wrong == api.OK {
			m, wrong = account.Send(m, 100)
		}
	}
	for _, x := range l {
		if wrong == api.OK {
			m, wrong = account.Ack(m, 100, from+x.t, from+x.t+x.r)
		}
	}
	if wrong != api.OK || m.N != len(l) {
		t.Fatalf("%d, with %d samples of %d", wrong, m.N, len(l))
	}
	return m
}

// ended is that account with the last packet lost, and an end.
func ended(t *testing.T, from int, l []sample) api.Mi {
	t.Helper()
	m, wrong := account.Lose(mi(t, from, l), 100)
	if wrong == api.OK {
		m, wrong = account.Close(m, from+5)
	}
	if wrong != api.OK || !account.Done(m) {
		t.Fatalf("%d, %+v", wrong, m)
	}
	return m
}

// told is what is told of an account's samples.
type told struct{ mean, dev, grade int }

func tell(m api.Mi) told { return told{Mean(m), Dev(m), Grade(m)} }

// meant is P10.2 and P10.3 word for word, of a right account.
func meant(m api.Mi) told {
	n := bigInt(m.N)
	x := told{mean: rounded(bigInt(m.SumR), n)}
	if v := new(big.Int).Sub(product(m.N, m.SumRR), product(m.SumR, m.SumR)); v.Sign() > 0 {
		x.dev = rounded(v.Sqrt(v), n)
	}
	if d := new(big.Int).Sub(product(m.N, m.SumTT), product(m.SumT, m.SumT)); d.Sign() > 0 {
		p, q := product(m.N, m.SumTR), product(m.SumT, m.SumR)
		x.grade = p.Cmp(q) * rounded(new(big.Int).Abs(new(big.Int).Sub(p, q)), d)
	}
	return x
}

func TestSamples(t *testing.T) { // P10.2, P10.3
	for i, x := range []struct {
		l    []sample
		want told
	}{
		{[]sample{{0, 10}, {10, 30}, {20, 50}}, told{30 * one, 16 * one, 2 * one}}, // the chapter's examples
		{[]sample{{5, 7}, {5, 9}}, told{8 * one, one, 0}},
		{nil, told{}},
		{[]sample{{0, 0}}, told{}},
		{[]sample{{3, 9}}, told{9 * one, 0, 0}},
		{[]sample{{span, span}}, told{span * one, 0, 0}},
		{[]sample{{0, 0}, {0, 1}}, told{one / 2, one / 2, 0}},
		{[]sample{{0, 0}, {0, 0}, {0, 1}}, told{349525, 349525, 0}},                 // the root of 2 is rounded down ahead of the quotient
		{[]sample{{0, 0}, {0, 1}, {0, 1}}, told{699051, 349525, 0}},                 // a third of a part is rounded up
		{[]sample{{0, 0}, {0, 4}, {0, 7}}, told{3844779, 2796203, 0}},               // the root of 74 is 8
		{[]sample{{0, 10}, {3, 9}}, told{19 * one / 2, one / 2, -349525}},           // a third, turned
		{[]sample{{0, 10}, {3, 8}}, told{9 * one, one, -699051}},                    // two thirds, turned
		{[]sample{{0, 1}, {3, 2}}, told{3 * one / 2, one / 2, 349525}},              // a third
		{[]sample{{0, 1}, {3, 3}}, told{2 * one, one, 699051}},                      // two thirds
		{[]sample{{0, 4}, {1 << 21, 5}}, told{9 * one / 2, one / 2, 1}},             // half a part
		{[]sample{{0, 5}, {1 << 21, 4}}, told{9 * one / 2, one / 2, -1}},            // half a part, turned
		{[]sample{{0, 4}, {1<<21 + 1, 5}}, told{9 * one / 2, one / 2, 0}},           // less
		{[]sample{{0, 5}, {1<<21 + 1, 4}}, told{9 * one / 2, one / 2, 0}},           // less, turned
		{[]sample{{7, 50}, {3, 50}, {900, 50}}, told{50 * one, 0, 0}},               // level
		{[]sample{{0, 1}, {1, 5}, {2, 1}}, told{2446677, 1747627, 0}},               // up and down
		{[]sample{{0, 0}, {span, span}}, told{span / 2 * one, span / 2 * one, one}}, // the greatest spans
		{[]sample{{0, span}, {span, 0}}, told{span / 2 * one, span / 2 * one, -one}},
		{[]sample{{0, 0}, {1, span}}, told{span / 2 * one, span / 2 * one, span * one}},
		{[]sample{{0, span}, {1, 0}}, told{span / 2 * one, span / 2 * one, -span * one}},
	} {
		for _, from := range []int{0, 100, 1 << 39} {
			if open, done := tell(mi(t, from, x.l)), tell(ended(t, from, x.l)); open != x.want || done != x.want {
				t.Errorf("%d: %v and, at its end, %v, not %v", i, open, done, x.want)
			}
		}
	}
}

// Right accounts may have sums that no samples make.
func TestAnySums(t *testing.T) { // P10.2, P10.3
	for i, x := range []struct {
		n, sumT, sumR, sumTT, sumTR, sumRR int
		want                               told
	}{
		{n: 2},
		{n: 2, sumR: 1, want: told{mean: one / 2}}, // the square of a sum is greater, by 1
		{n: 2, sumR: 2, sumRR: 1, want: told{mean: one}},
		{n: 2, sumR: 2, sumRR: 2, want: told{mean: one}}, // the same
		{n: 2, sumR: 1, sumRR: 1, want: told{mean: one / 2, dev: one / 2}},
		{n: 2, sumR: 2 * span, want: told{mean: span * one}},
		{n: many, sumR: many * span, sumRR: many * square, want: told{mean: span * one}},
		{n: many, sumR: many * span, sumRR: many*square - 1, want: told{mean: span * one}},
		{n: many, sumRR: many * square, want: told{dev: span * one}},
		{n: many, sumR: many * span, want: told{mean: span * one}}, // less 3774873600000000000000
		{n: many, sumR: 1, sumRR: 1, want: told{mean: 1 << 10, dev: 31 << 10}},
		{n: 2, sumT: 1, sumTR: 5}, // d is -1
		{n: 2, sumT: 2, sumTT: 1, sumTR: 5},
		{n: 2, sumT: 2, sumTT: 2, sumTR: 5}, // d is 0
		{n: 2, sumT: 2, sumR: 5, sumTT: 2, want: told{mean: 5 * one / 2}},
		{n: 2, sumT: 2 * span, sumTR: 2 * square},
		{n: many, sumT: many * span, sumTR: many * square},
		{n: many, sumT: many * span, sumTT: many * square, sumTR: many * square},
		{n: 2, sumT: 1, sumTT: 1, sumTR: 5, want: told{grade: 10 * one}}, // d is 1
		{n: 2, sumT: 1, sumR: 1, sumTT: 1, sumTR: 5, want: told{mean: one / 2, grade: 9 * one}},
		{n: 2, sumT: 1, sumR: 10, sumTT: 1, sumTR: 5, want: told{mean: 5 * one}},
		{n: 2, sumT: 1, sumR: 11, sumTT: 1, sumTR: 5, want: told{mean: 11 * one / 2, grade: -one}},
		{n: 2, sumT: 1, sumTT: 1, sumTR: 1<<41 - 1, want: told{grade: top - 2*one}},
		{n: 2, sumT: 1, sumTT: 1, sumTR: 1 << 41, want: told{grade: top}},
		{n: 2, sumT: 1, sumTT: 1, sumTR: 1<<41 + 1, want: told{grade: top}},
		{n: 2, sumT: 1, sumTT: 1, sumTR: 2 * square, want: told{grade: top}},
		{n: 2, sumT: 2*span - 1, sumR: 2 * span, sumTT: 2*square - 2*span + 1, want: told{mean: span * one, grade: -top}}, // d is 1
		{n: many, sumTT: many * square, sumTR: many * square, want: told{grade: one}},
		{n: many, sumTT: many * square, sumTR: many * square / 2, want: told{grade: one / 2}},
		{n: many, sumT: 32 * span, sumR: many * span, sumTT: many * square, want: told{mean: span * one, grade: -32800}}, // 32768 of 1023 parts
	} {
		m := api.Mi{To: -1, Packets: 2000, Sent: 2000, Hits: many, Acked: many, N: x.n, SumT: x.sumT, SumR: x.sumR, SumTT: x.sumTT, SumTR: x.sumTR, SumRR: x.sumRR}
		if !account.Is(m) {
			t.Fatalf("%d: not right", i)
		}
		if got := tell(m); got != x.want || got != meant(m) {
			t.Errorf("%d: %v, not %v", i, got, x.want)
		}
	}
}

func TestWithoutSamples(t *testing.T) { // P10.2, P10.3
	for _, m := range []api.Mi{
		{},
		{To: -1},
		{Id: 3, From: 100, To: 200, Packets: 5, Sent: 7500, Drops: 5, Lost: 7500},
		{Id: 3, From: 100, To: 200, Packets: 5, Sent: 7500, Hits: 5, Acked: 7500},
		{Id: 3, From: 100, To: -1, Packets: 5, Sent: 7500, Hits: 2, Acked: 3000},
	} {
		if !account.Is(m) || tell(m) != (told{}) {
			t.Errorf("%+v: %v", m, tell(m))
		}
	}
}

func TestWhatIsNotRight(t *testing.T) { // P10.2, P10.3
	some := ended(t, 100, []sample{{0, 10}, {10, 30}, {20, 50}})
	if tell(some) != (told{30 * one, 16 * one, 2 * one}) {
		t.Fatalf("%+v: %v", some, tell(some))
	}
	for i, spoil := range []func(m *api.Mi){
		func(m *api.Mi) { m.Id = -1 },
		func(m *api.Mi) { m.From = -1 },
		func(m *api.Mi) { m.From = m.To + 1 },
		func(m *api.Mi) { m.To = m.From - 1 },
		func(m *api.Mi) { m.To = -2 },
		func(m *api.Mi) { m.To = api.MaxTime + 1 },
		func(m *api.Mi) { m.Packets++ },
		func(m *api.Mi) { m.Packets = -1 },
		func(m *api.Mi) { m.Hits++ },
		func(m *api.Mi) { m.Drops = -1 },
		func(m *api.Mi) { m.Sent++ },
		func(m *api.Mi) { m.Acked++ },
		func(m *api.Mi) { m.Lost-- },
		func(m *api.Mi) { m.N = 4 },
		func(m *api.Mi) { m.N = 0 },
		func(m *api.Mi) { m.N = -3 },
		func(m *api.Mi) { m.N = math.MinInt },
		func(m *api.Mi) { m.N = math.MaxInt },
		func(m *api.Mi) { m.SumT = -1 },
		func(m *api.Mi) { m.SumT = 3*span + 1 },
		func(m *api.Mi) { m.SumR = -1 },
		func(m *api.Mi) { m.SumR = 3*span + 1 },
		func(m *api.Mi) { m.SumTT = -1 },
		func(m *api.Mi) { m.SumTT = 3*square + 1 },
		func(m *api.Mi) { m.SumTR = -1 },
		func(m *api.Mi) { m.SumTR = 3*square + 1 },
		func(m *api.Mi) { m.SumRR = -1 },
		func(m *api.Mi) { m.SumRR = math.MaxInt },
		func(m *api.Mi) { m.SumR, m.SumRR = math.MinInt, math.MinInt },
		func(m *api.Mi) { *m = api.Mi{To: -1, SumT: 1, SumR: 9, SumTT: 9, SumTR: 9, SumRR: 99} },
	} {
		m := some
		spoil(&m)
		if account.Is(m) || tell(m) != (told{}) {
			t.Errorf("%d: %v", i, tell(m))
		}
	}
}

// random makes the same numbers at each run.
type random uint64

func (r *random) below(n int) int {
	*r = *r*6364136223846793005 + 1442695040888963407
	return int(uint64(*r)>>33) % n
}

// upTo is a number from 0 to most: an end of them, a small one, or any.
func (r *random) upTo(most int) int {
	switch r.below(6) {
	case 0:
		return 0
	case 1:
		return most
	case 2:
		return r.below(min(most, 20) + 1)
	}
	return (r.below(1<<31)<<31 | r.below(1<<31)) % (most + 1)
}

// samples are so many of them, with spans up to these.
func (r *random) samples(n, t, most int) []sample {
	var l []sample
	for range n {
		l = append(l, sample{r.upTo(t), r.upTo(most)})
	}
	return l
}

// fit is how the line rises that fits l best, by the distances of its samples from their middle; nothing, if they are all at one time.
func fit(l []sample) *big.Rat {
	ratOf := func(n int) *big.Rat { return new(big.Rat).SetInt64(int64(n)) }
	n, t, r := ratOf(len(l)), new(big.Rat), new(big.Rat)
	for _, x := range l {
		t.Add(t, ratOf(x.t))
		r.Add(r, ratOf(x.r))
	}
	t.Quo(t, n)
	r.Quo(r, n)
	up, along := new(big.Rat), new(big.Rat)
	for _, x := range l {
		dt, dr := new(big.Rat).Sub(ratOf(x.t), t), new(big.Rat).Sub(ratOf(x.r), r)
		up.Add(up, dr.Mul(dr, dt))
		along.Add(along, dt.Mul(dt, dt))
	}
	if along.Sign() == 0 {
		return nil
	}
	return up.Quo(up, along)
}

// fits tells whether grade is what rises like that, as near as parts can be.
func fits(grade int, rise *big.Rat) bool {
	if rise == nil {
		return grade == 0
	}
	return grade == rise.Sign()*rounded(new(big.Int).Abs(rise.Num()), rise.Denom())
}

func TestTheLineThatFitsBest(t *testing.T) { // P10.2, P10.3
	r := random(1)
	ups, downs := 0, 0
	for range 4000 {
		l := r.samples(1+r.below(9), 1+r.upTo(span-1), r.upTo(span))
		m := mi(t, r.below(1000), l)
		if got, want := tell(m), meant(m); got != want || !fits(got.grade, fit(l)) {
			t.Fatalf("%v: %v, not %v", l, got, want)
		} else if got.grade > 0 {
			ups++
		} else if got.grade < 0 {
			downs++
		}
	}
	if ups < 500 || downs < 500 {
		t.Errorf("%d up, %d down", ups, downs)
	}
}

func TestSumsAreThoseOfTheWords(t *testing.T) { // P10.2, P10.3
	r := random(2)
	spreads, ups, downs := 0, 0, 0
	for range 40000 {
		n := 1 + r.upTo(many-1)
		m := api.Mi{To: -1, Packets: 2000, Sent: 2000, Hits: many, Acked: many, N: n, SumT: r.upTo(n * span), SumR: r.upTo(n * span), SumTT: r.upTo(n * square), SumTR: r.upTo(n * square), SumRR: r.upTo(n * square)}
		got := tell(m)
		if !account.Is(m) || got != meant(m) {
			t.Fatalf("%+v: %v, not %v", m, got, meant(m))
		}
		if got.dev > 0 {
			spreads++
		}
		if got.grade > 0 {
			ups++
		} else if got.grade < 0 {
			downs++
		}
	}
	if spreads < 5000 || ups < 5000 || downs < 3000 {
		t.Errorf("%d spread, %d up, %d down", spreads, ups, downs)
	}
}

func TestALongerWay(t *testing.T) { // P10.4
	r := random(3)
	for range 2000 {
		most := r.upTo(span)
		l := r.samples(1+r.below(12), span, most)
		more := r.upTo(span - most)
		longer := make([]sample, len(l))
		for i, x := range l {
			longer[i] = sample{x.t, x.r + more}
		}
		want := tell(mi(t, 0, l))
		want.mean += more * one
		if got := tell(mi(t, 0, longer)); got != want {
			t.Fatalf("%v and %d more: %v, not %v", l, more, got, want)
		}
	}
}

func TestSamplesOnALine(t *testing.T) { // P10.4
	r := random(4)
	for _, x := range []struct{ up, along, grade int }{
		{0, 1, 0}, {1, 1, one}, {-1, 1, -one}, {2, 1, 2 * one}, {-7, 1, -7 * one}, {1, 2, one / 2}, {-1, 2, -one / 2},
		{1, 3, 349525}, {-1, 3, -349525}, {2, 3, 699051}, {-2, 3, -699051}, {1, 1 << 21, 1}, {-1, 1 << 21, -1}, {1, 1<<21 + 1, 0}, {-1, 1<<21 + 1, 0}, {1000000, 1, 1000000 * one}, {-1000000, 7, -149796571429},
	} {
		for range 50 {
			l := []sample{{x.along, 20000000 + x.up}, {5 * x.along, 20000000 + 5*x.up}}
			for range r.below(20) {
				at := r.below(19)
				l = append(l, sample{at * x.along, 20000000 + at*x.up})
			}
			if grade := Grade(mi(t, 0, l)); grade != x.grade {
				t.Fatalf("%v: %d, not %d", l, grade, x.grade)
			}
		}
	}
}

func TestSamplesThatAreTheSame(t *testing.T) { // P10.4
	for _, n := range []int{1, 2, 3, 7, 1000, 1023, 1024} {
		for _, x := range []sample{{0, 0}, {0, 1}, {1, 0}, {5, 7}, {1000, 20000}, {span, 0}, {0, span}, {span, span}, {span - 1, span - 1}} {
			var l []sample
			for range n {
				l = append(l, x)
			}
			if got := tell(mi(t, 0, l)); got != (told{mean: x.r * one}) {
				t.Fatalf("%d times %v: %v", n, x, got)
			}
		}
	}
}

func TestSamplesToldBackwards(t *testing.T) { // P10.4
	r := random(5)
	for range 2000 {
		last := 1 + r.upTo(span-1)
		l := r.samples(1+r.below(12), last, r.upTo(span))
		back := make([]sample, len(l))
		for i, x := range l {
			back[len(l)-1-i] = sample{last - x.t, x.r}
		}
		want := tell(mi(t, 0, l))
		want.grade = -want.grade
		if got := tell(mi(t, 0, back)); got != want {
			t.Fatalf("%v backwards: %v, not %v", l, got, want)
		}
	}
	there := []sample{{0, 10}, {10, 90}, {20, 30}, {30, 95}}
	back := []sample{{0, 95}, {10, 30}, {20, 90}, {30, 10}}
	if up, down := Grade(mi(t, 0, there)), Grade(mi(t, 0, back)); up != 2044723 || down != -2044723 {
		t.Errorf("%d and, backwards, %d", up, down)
	}
}
