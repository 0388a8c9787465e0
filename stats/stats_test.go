package stats

import (
	"math"
	"math/big"
	"testing"

	"pacemaker/account"
	"pacemaker/api"
)

const (
	one      = 1048576
	top      = 4611686018427387904
	most     = math.MaxInt
	least    = math.MinInt
	span     = 60000000
	square   = 3600000000000000
	lastTime = 1099511627776
	packets  = 1048576
	bytes    = 9437184000 // of so many packets, at most
	many     = 1024
)

func bigOf(n int) *big.Int { return big.NewInt(int64(n)) }

func product(a, b int) *big.Int { return new(big.Int).Mul(bigOf(a), bigOf(b)) }

// held is the fixed number that n means.
func held(n *big.Int) int {
	switch {
	case n.Cmp(bigOf(top)) > 0:
		return top
	case n.Cmp(bigOf(-top)) < 0:
		return -top
	}
	return int(n.Int64())
}

func fixed(n int) int { return held(bigOf(n)) }

func plus(a, b int) int { return held(new(big.Int).Add(bigOf(fixed(a)), bigOf(fixed(b)))) }

func less(a, b int) int { return held(new(big.Int).Sub(bigOf(fixed(a)), bigOf(fixed(b)))) }

// rounded is n by d, which is above 0, to the nearest; of two that are as near the one farther from 0.
func rounded(n *big.Int, d int) *big.Int {
	size := new(big.Int).Abs(n)
	size.Add(size.Lsh(size, 1), bigOf(d))
	size.Quo(size, product(2, d))
	return size.Mul(size, bigOf(n.Sign()))
}

// scaled is a times n, by d, which is above 0, as layer 2 tells it.
func scaled(a, n, d int) int { return held(rounded(product(fixed(a), n), d)) }

// edges are 0, the ends of all kinds, what is beside them, and some others.
func edges() []int {
	l := []int{least, least + 1, least + 2, most - 2, most - 1, most, 2621440, 1000003}
	for _, n := range []int{0, 2, 4, 8, 12, 16, 100, 1000, one, span, lastTime, top / 8, top / 4, top / 3, top / 2, 3 * (top / 4), top - 8, top} {
		for beside := -1; beside <= 1; beside++ {
			l = append(l, n+beside, -n+beside)
		}
	}
	return l
}

// random makes the same numbers at each run.
type random uint64

func (r *random) below(n int) int {
	*r = *r*6364136223846793005 + 1442695040888963407
	return int(uint64(*r)>>33) % n
}

// upTo is a number from 0 to most: an end of them, a small one, or any.
func (r *random) upTo(most int) int {
	switch r.below(6) {
	case 0:
		return 0
	case 1:
		return most
	case 2:
		return r.below(min(most, 20) + 1)
	}
	return int((uint64(r.below(1<<31))<<32 | uint64(r.below(1<<31))<<1) % (uint64(most) + 1))
}

// any is any int, of any size.
func (r *random) any() int {
	n := r.upTo(most) >> r.below(63)
	if r.below(2) == 0 {
		return ^n
	}
	return n
}

// around is a number beside n, or any.
func (r *random) around(n int) int {
	if r.below(4) == 0 {
		return r.any()
	}
	return n + r.below(41) - 20
}

// sample is when a packet was sent, and how long it was on its way.
type sample struct{ t, r int }

// steps are those of an account, done one by one as long as none is refused.
type steps struct {
	m     api.Mi
	wrong api.Errno
}

func (s *steps) do(step func(m api.Mi) (api.Mi, api.Errno)) {
	if s.wrong == api.OK {
		s.m, s.wrong = step(s.m)
	}
}

// ended is an account of an interval, with packets of these sizes, of which some are acked, with these samples, and all others lost.
func ended(t *testing.T, from, to int, sizes []int, acked []sample) api.Mi {
	t.Helper()
	m, wrong := account.Open(1, from)
	s := &steps{m, wrong}
	for _, size := range sizes {
		s.do(func(m api.Mi) (api.Mi, api.Errno) { return account.Send(m, size) })
	}
	for i, size := range sizes {
		s.do(func(m api.Mi) (api.Mi, api.Errno) {
			if i >= len(acked) {
				return account.Lose(m, size)
			}
			return account.Ack(m, size, from+acked[i].t, from+acked[i].t+acked[i].r)
		})
	}
	s.do(func(m api.Mi) (api.Mi, api.Errno) { return account.Close(m, to) })
	if s.wrong != api.OK || !account.Done(s.m) {
		t.Fatalf("%d, %+v", s.wrong, s.m)
	}
	return s.m
}

// tells tells what is wrong with the stats of an interval that tells some.
func tells(t *testing.T, m api.Mi, want api.Stats) {
	t.Helper()
	if s, wrong := Of(m); s != want || wrong != api.OK {
		t.Errorf("%+v: %+v, %d, not %+v", m, s, wrong, want)
	}
}

// refuses tells what is wrong where an interval tells none.
func refuses(t *testing.T, m api.Mi, want api.Errno) {
	t.Helper()
	if s, wrong := Of(m); s != (api.Stats{}) || wrong != want {
		t.Errorf("%+v: %+v, %d, not %d", m, s, wrong, want)
	}
}

func TestTheChaptersExample(t *testing.T) { // P13.1
	tells(t, ended(t, 0, 1000, []int{1500}, []sample{{0, 20}}), api.Stats{Rate: 1500000, Good: 1500000, Mean: 20 * one, N: 1})
}

func TestOf(t *testing.T) { // P13.1
	for _, x := range []struct {
		from, to int
		sizes    []int
		acked    []sample
		want     api.Stats
	}{
		{0, 1000, []int{1000, 1000, 1000, 1000}, []sample{{0, 10}, {10, 30}, {20, 50}}, api.Stats{Rate: 4000000, Good: 3000000, Loss: one / 4, Mean: 30 * one, Dev: 16 * one, Grade: 2 * one, N: 3}},
		{700, 3200, []int{500, 1000}, []sample{{20, 50}}, api.Stats{Rate: 600000, Good: 200000, Loss: 699051, Mean: 50 * one, N: 1}},
		{5, 105, []int{10, 20, 30}, []sample{{0, 50}, {10, 30}, {20, 10}}, api.Stats{Rate: 600000, Good: 600000, Mean: 30 * one, Dev: 16 * one, Grade: -2 * one, N: 3}},
		{5, 105, []int{100, 100}, []sample{{5, 7}, {5, 9}}, api.Stats{Rate: 2000000, Good: 2000000, Mean: 8 * one, Dev: one, N: 2}},
		{5, 105, []int{9000, 1}, nil, api.Stats{Rate: 90010000, Loss: one}},
		{5, 105, []int{9000, 1}, []sample{{0, 0}}, api.Stats{Rate: 90010000, Good: 90000000, Loss: 116, N: 1}}, // 116 and a half, and less
		{0, 1000, []int{700}, []sample{{900, 500}}, api.Stats{Rate: 700000, Good: 700000, Mean: 500 * one, N: 1}},
		{0, 1000, []int{300, 400}, []sample{{0, 0}, {0, 1}}, api.Stats{Rate: 700000, Good: 700000, Mean: one / 2, Dev: one / 2, N: 2}},
	} {
		tells(t, ended(t, x.from, x.to, x.sizes, x.acked), x.want)
	}
}

func TestSpans(t *testing.T) { // P13.1
	for _, x := range []struct{ from, to, size, rate int }{
		{0, 0, 1, 1000000}, // as if it were 1
		{7, 7, 9, 9000000},
		{lastTime, lastTime, 9000, 9000000000},
		{0, 1, 1, 1000000},
		{7, 8, 9, 9000000},
		{lastTime - 1, lastTime, 9, 9000000},
		{0, 2, 1, 500000},
		{0, 3, 1, 333333},
		{0, 3, 2, 666667},
		{100, 103, 2, 666667},
		{0, 1000000, 1, 1},
		{0, 1999999, 1, 1},
		{0, 2000000, 1, 1}, // a half
		{0, 2000001, 1, 0},
		{0, 2000000, 3, 2}, // 1 and a half
		{0, 2000001, 3, 1},
		{lastTime - 2000000, lastTime, 5, 3},
		{0, lastTime, 9000, 0},
		{0, 1000000, 9000, 9000},
		{500000, 1000000, 9000, 18000},
	} {
		m := ended(t, x.from, x.to, []int{x.size}, []sample{{0, 0}})
		tells(t, m, api.Stats{Rate: x.rate, Good: x.rate, N: 1})
		tells(t, ended(t, x.from, x.to, []int{x.size}, nil), api.Stats{Rate: x.rate, Loss: one})
	}
}

// done is an account of an interval with its most packets, of which these were lost.
func done(to, drops, sent, lost int) api.Mi {
	return api.Mi{To: to, Packets: packets, Sent: sent, Drops: drops, Lost: lost, Hits: packets - drops, Acked: sent - lost}
}

func TestMostBytes(t *testing.T) { // P13.1
	tells(t, done(0, 0, bytes, 0), api.Stats{Rate: 9437184000000000, Good: 9437184000000000})
	tells(t, done(lastTime, 0, bytes, 0), api.Stats{Rate: 8583, Good: 8583}) // and 69 of 1000
	tells(t, done(lastTime, packets, bytes, bytes), api.Stats{Rate: 8583, Loss: one})
	tells(t, done(1, packets/2, bytes, bytes/2), api.Stats{Rate: 9437184000000000, Good: 4718592000000000, Loss: one / 2})
	m := done(1000, 0, bytes, 0)
	m.N, m.SumR, m.SumRR = many, many*span, many*square
	tells(t, m, api.Stats{Rate: 9437184000000, Good: 9437184000000, Mean: span * one, N: many})
	m.SumTT, m.SumTR = 1, 1 // together with the others, no samples make these
	tells(t, m, api.Stats{Rate: 9437184000000, Good: 9437184000000, Mean: span * one, Grade: one, N: many})
	m.SumTR = most
	refuses(t, m, api.ErrArg)
	m.SumTR = many * square
	tells(t, m, api.Stats{Rate: 9437184000000, Good: 9437184000000, Mean: span * one, Grade: top, N: many})
}

func TestLoss(t *testing.T) { // P13.1
	for _, x := range []struct{ drops, sent, lost, loss int }{
		{0, 3 * one, 0, 0},
		{1, 3 * one, 1, 0}, // a third of a part
		{1, 2 * one, 1, 1}, // half a part
		{1, 2*one + 1, 1, 0},
		{1, 2*one - 1, 1, 1},
		{3, 2 * one, 3, 2}, // 1 part and a half
		{3, 2*one + 1, 3, 1},
		{1, one, 1, 1},
		{100, one, 100, 100},
		{packets / 2, one, one / 2, one / 2},
		{packets - 1, one, one - 1, one - 1},
		{packets - 1, 2 * one, 2*one - 1, one}, // half a part below
		{packets - 1, 2*one + 1, 2 * one, one}, // less
		{packets - 1, 2*one - 1, 2*one - 2, one - 1},
		{packets - 1, bytes - 1, bytes - 9000, 1048575},
		{packets, bytes, bytes, one},
		{packets, one, one, one},
	} {
		m := done(0, x.drops, x.sent, x.lost)
		tells(t, m, api.Stats{Rate: x.sent * 1000000, Good: (x.sent - x.lost) * 1000000, Loss: x.loss})
	}
}

// N is how many samples there are, which may be fewer than hits.
func TestHitsWithoutSamples(t *testing.T) { // P13.1
	tells(t, ended(t, 0, 1000, []int{100, 100, 200}, []sample{{0, 10}, {0, span + 1}, {10, 30}}), api.Stats{Rate: 400000, Good: 400000, Mean: 20 * one, Dev: 10 * one, Grade: 2 * one, N: 2})
	tells(t, ended(t, 0, 1000, []int{100, 300}, []sample{{span + 1, 10}}), api.Stats{Rate: 400000, Good: 100000, Loss: 3 * one / 4})
	tells(t, ended(t, 200, 1200, []int{100, 300}, []sample{{-1, 10}}), api.Stats{Rate: 400000, Good: 100000, Loss: 3 * one / 4})
	var sizes []int
	var acked []sample
	for i := range many + 50 {
		sizes = append(sizes, 10)
		acked = append(acked, sample{0, 40 + i/many*1000})
	}
	tells(t, ended(t, 0, 1000, sizes, acked), api.Stats{Rate: 10740000, Good: 10740000, Mean: 40 * one, N: many})
}

func TestWhatIsNotDone(t *testing.T) { // P13.1
	for _, m := range []api.Mi{
		{To: -1},                   // without packets, too
		{Id: 3, From: 100, To: -1}, // it has not ended
		{To: -1, Packets: 1, Sent: 9, Hits: 1, Acked: 9},
		{To: -1, Packets: 1, Sent: 9, Drops: 1, Lost: 9},
		{To: -1, Packets: 1, Sent: 9},
		{To: 5, Packets: 1, Sent: 9}, // it has, but not all is told
		{To: 0, Packets: 2, Sent: 9, Hits: 1, Acked: 8},
		{To: 5, Packets: 3, Sent: 9, Hits: 1, Acked: 2, Drops: 1, Lost: 3},
		{From: lastTime, To: lastTime, Packets: packets, Sent: bytes, Hits: packets - 1, Acked: bytes - 9000},
	} {
		refuses(t, m, api.ErrShut)
	}
}

func TestWithoutPackets(t *testing.T) { // P13.1
	for _, m := range []api.Mi{
		{},
		{To: 5},
		{Id: most, From: 7, To: 7},
		{Id: 3, From: 100, To: 200},
		{From: lastTime, To: lastTime},
		{To: lastTime},
	} {
		refuses(t, m, api.ErrNone)
	}
}

func TestWhatIsNotRight(t *testing.T) { // P13.1
	whole := ended(t, 100, 1100, []int{500, 500, 500, 600}, []sample{{0, 10}, {10, 30}, {20, 50}})
	open := whole
	open.To = -1
	bare := api.Mi{Id: 1, From: 100, To: 1100}
	for i, spoil := range []func(m *api.Mi){
		func(m *api.Mi) { m.Id = -1 },
		func(m *api.Mi) { m.From = -1 },
		func(m *api.Mi) { m.From = lastTime + 1 },
		func(m *api.Mi) { m.To = -2 },
		func(m *api.Mi) { m.To = 99 },
		func(m *api.Mi) { m.To = lastTime + 1 },
		func(m *api.Mi) { m.To, m.From = least, most },
		func(m *api.Mi) { m.Packets-- },
		func(m *api.Mi) { m.Packets = packets + 1 },
		func(m *api.Mi) { m.Sent = 9000*m.Packets + 1 },
		func(m *api.Mi) { m.Sent = -1 },
		func(m *api.Mi) { m.Hits++ },
		func(m *api.Mi) { m.Hits = -1 },
		func(m *api.Mi) { m.Drops = most },
		func(m *api.Mi) { m.Drops = -1 },
		func(m *api.Mi) { m.Acked++ },
		func(m *api.Mi) { m.Acked = least },
		func(m *api.Mi) { m.Lost++ },
		func(m *api.Mi) { m.Lost = -1 },
		func(m *api.Mi) { m.N = 4 },
		func(m *api.Mi) { m.N = -1 },
		func(m *api.Mi) { m.SumT = -1 },
		func(m *api.Mi) { m.SumT = 3*span + 1 },
		func(m *api.Mi) { m.SumR = -1 },
		func(m *api.Mi) { m.SumTT = 3*square + 1 },
		func(m *api.Mi) { m.SumTR = most },
		func(m *api.Mi) { m.SumRR = least },
	} {
		for _, m := range []api.Mi{whole, open, bare} { // what is not right is that first
			spoil(&m)
			if account.Is(m) {
				t.Fatalf("%d: %+v", i, m)
			}
			refuses(t, m, api.ErrArg)
		}
	}
}

// fit is how the line rises that fits the samples best, as a fixed number, by their distances from their middle.
func fit(l []sample) int {
	n, sumT, sumR := len(l), 0, 0
	for _, x := range l {
		sumT += x.t
		sumR += x.r
	}
	up, along := new(big.Int), new(big.Int)
	for _, x := range l { // n times each distance, so they are whole
		up.Add(up, product(n*x.t-sumT, n*x.r-sumR))
		along.Add(along, product(n*x.t-sumT, n*x.t-sumT))
	}
	if along.Sign() == 0 {
		return 0
	}
	return held(ratio(up, along))
}

// ratio is a by b, which is above 0, as a fixed number, rounded to the nearest part.
func ratio(a, b *big.Int) *big.Int {
	size := new(big.Int).Abs(a)
	size.Add(size.Lsh(size, 21), b)
	size.Quo(size, new(big.Int).Lsh(b, 1))
	return size.Mul(size, bigOf(a.Sign()))
}

// spread is how far the samples are spread, by their distances from one another.
func spread(l []sample) int {
	v := new(big.Int) // n times all squares, less the square of the sum
	for i, x := range l {
		for _, y := range l[:i] {
			v.Add(v, product(x.r-y.r, x.r-y.r))
		}
	}
	return held(ratio(v.Sqrt(v), bigOf(len(l))))
}

// meant is P13.1 word for word of an interval.
func meant(length int, sizes []int, acked []sample) api.Stats {
	sent, good, sum := 0, 0, 0
	for i, size := range sizes {
		sent += size
		if i < len(acked) {
			good += size
			sum += acked[i].r
		}
	}
	length = max(length, 1)
	s := api.Stats{Rate: scaled(sent, 1000000, length), Good: scaled(good, 1000000, length), Loss: scaled(sent-good, one, sent), N: len(acked)}
	if s.N > 0 {
		s.Mean, s.Dev, s.Grade = scaled(sum, one, s.N), spread(acked), fit(acked)
	}
	return s
}

// interval is any one, in which no more are acked than samples are taken of.
func (r *random) interval(longest int) (length int, sizes []int, acked []sample) {
	for range 1 + r.below(12) {
		sizes = append(sizes, 1+r.upTo(8999))
	}
	last := r.upTo(span)
	for range r.below(len(sizes) + 1) {
		acked = append(acked, sample{r.upTo(last), r.upTo(longest)})
	}
	return r.upTo(lastTime / 2), sizes, acked
}

func TestOfIsThatOfItsWords(t *testing.T) { // P13.1
	r := random(1)
	ups, downs, losses := 0, 0, 0
	for range 5000 {
		length, sizes, acked := r.interval(r.upTo(span))
		if r.below(2) == 0 {
			length = r.below(3000000)
		}
		from := r.upTo(lastTime / 4)
		want := meant(length, sizes, acked)
		tells(t, ended(t, from, from+length, sizes, acked), want)
		if t.Failed() {
			return
		}
		if want.Grade > 0 {
			ups++
		} else if want.Grade < 0 {
			downs++
		}
		if want.Loss > 0 && want.Loss < one {
			losses++
		}
	}
	if ups < 700 || downs < 700 || losses < 2000 {
		t.Errorf("%d up, %d down, %d with losses", ups, downs, losses)
	}
}

// How long the way is, alone, counts for nothing: the mean alone tells it.
func TestALongerWay(t *testing.T) { // P13.1
	r := random(2)
	for range 1000 {
		longest := r.upTo(span)
		length, sizes, acked := r.interval(longest)
		more := r.upTo(span - longest)
		longer := make([]sample, len(acked))
		for i, x := range acked {
			longer[i] = sample{x.t, x.r + more}
		}
		want, wrong := Of(ended(t, 5, 5+length, sizes, acked))
		if wrong != api.OK {
			t.Fatal(wrong)
		}
		if len(acked) > 0 {
			want.Mean += more * one
		}
		tells(t, ended(t, 5, 5+length, sizes, longer), want)
	}
}

func TestLossAndGood(t *testing.T) { // P13.5
	r := random(3)
	none, all, some := 0, 0, 0
	for range 20000 {
		drops := r.upTo(packets)
		hits := r.upTo(packets - drops)
		lost, acked := drops+r.upTo(8999*drops), hits+r.upTo(8999*hits)
		if drops+hits == 0 {
			continue
		}
		m := api.Mi{To: r.upTo(lastTime), Packets: drops + hits, Sent: lost + acked, Drops: drops, Lost: lost, Hits: hits, Acked: acked}
		s, wrong := Of(m)
		if wrong != api.OK || s.Loss < 0 || s.Loss > one || s.Good < 0 || s.Good > s.Rate {
			t.Fatalf("%+v: %+v, %d", m, s, wrong)
		}
		switch {
		case drops == 0:
			none++
			if s.Loss != 0 || s.Good != s.Rate {
				t.Fatalf("%+v: %+v", m, s)
			}
		case hits == 0:
			all++
			if s.Loss != one || s.Good != 0 {
				t.Fatalf("%+v: %+v", m, s)
			}
		default:
			some++
		}
	}
	if none < 1000 || all < 1000 || some < 5000 {
		t.Errorf("%d, %d, %d", none, all, some)
	}
}

// filtered is P13.2 word for word.
func filtered(s api.Stats, grade, dev int) api.Stats {
	if bigOf(s.Grade).Cmp(bigOf(grade)) <= 0 && new(big.Int).Neg(bigOf(s.Grade)).Cmp(bigOf(grade)) <= 0 {
		s.Grade = 0
	}
	if bigOf(s.Dev).Cmp(bigOf(dev)) <= 0 {
		s.Dev = 0
	}
	return s
}

func TestFilter(t *testing.T) { // P13.2
	some := api.Stats{Rate: 9, Good: 8, Loss: 7, Mean: 6, N: 5}
	for _, x := range []struct{ grade, dev, boundG, boundD, wantG, wantD int }{
		{0, 0, 0, 0, 0, 0},
		{1, 1, 0, 0, 1, 1},
		{-1, -1, 0, 0, -1, 0}, // a spread has no other side
		{10, 10, 10, 10, 0, 0},
		{11, 11, 10, 10, 11, 11},
		{9, 9, 10, 10, 0, 0},
		{-10, -10, 10, 10, 0, 0},
		{-11, -11, 10, 10, -11, 0},
		{-9, -9, 10, 10, 0, 0},
		{11, 10, 10, 10, 11, 0}, // one does not hang on the other
		{10, 11, 10, 10, 0, 11},
		{5, 5, 10, 4, 0, 5},
		{5, 5, 4, 10, 5, 0},
		{5, 5, -1, -1, 5, 5}, // below 0 is no distance
		{-5, -5, -1, -1, -5, 0},
		{0, 0, -1, -1, 0, 0},
		{-5, -5, -5, -5, -5, 0},
		{-5, -5, -6, -6, -5, -5},
		{-5, -5, -4, -4, -5, 0},
		{5, 5, -5, -5, 5, 5},
		{5, 5, least, least, 5, 5},
		{-5, -5, least, least, -5, -5},
		{least, least, least, least, least, 0},
		{least, least, least + 1, least + 1, least, 0},
		{least + 1, least + 1, least, least, least + 1, least + 1},
		{least, least, most, most, least, 0}, // turned, it is above the greatest int
		{least, least, 0, 0, least, 0},
		{least + 1, least + 1, most, most, 0, 0},
		{least + 1, least + 1, most - 1, most - 1, least + 1, 0},
		{most, most, most, most, 0, 0},
		{most, most, most - 1, most - 1, most, most},
		{most, most, least, least, most, most},
		{most - 1, most - 1, most, most, 0, 0},
		{top, top, top, top, 0, 0},
		{top + 1, top + 1, top, top, top + 1, top + 1}, // what is beyond the fixed numbers is not held
		{-top - 1, -top - 1, top, top, -top - 1, 0},
		{top + 1, top + 1, top + 1, top + 1, 0, 0},
	} {
		s, want := some, some
		s.Grade, s.Dev, want.Grade, want.Dev = x.grade, x.dev, x.wantG, x.wantD
		if got := Filter(s, x.boundG, x.boundD); got != want {
			t.Errorf("%+v by %d, %d: %+v, not %+v", s, x.boundG, x.boundD, got, want)
		}
	}
}

func TestFilterIsThatOfItsWords(t *testing.T) { // P13.2, P13.5
	all := edges()
	for i, n := range all {
		for j, bound := range all {
			dev, boundD := all[(i*7+j)%len(all)], all[(i+j*11)%len(all)]
			s := api.Stats{Rate: i, Good: -j, Loss: least, Mean: most, Dev: dev, Grade: n, N: i - j}
			got, want := Filter(s, bound, boundD), filtered(s, bound, boundD)
			if got != want {
				t.Fatalf("%+v by %d, %d: %+v, not %+v", s, bound, boundD, got, want)
			}
			if again := Filter(got, bound, boundD); again != got {
				t.Fatalf("%+v by %d, %d, again: %+v", got, bound, boundD, again)
			}
			s.Grade, s.Dev = dev, n
			if got, want := Filter(s, boundD, bound), filtered(s, boundD, bound); got != want {
				t.Fatalf("%+v by %d, %d: %+v, not %+v", s, boundD, bound, got, want)
			}
		}
	}
}

func TestFilteredAgain(t *testing.T) { // P13.5
	r := random(4)
	kept := 0
	for range 50000 {
		grade, dev := r.any(), r.any()
		s := api.Stats{Rate: r.any(), Dev: r.around(dev), Grade: r.around(grade), N: r.any()}
		if r.below(2) == 0 {
			s.Grade = -s.Grade
		}
		once := Filter(s, grade, dev)
		if once != filtered(s, grade, dev) || Filter(once, grade, dev) != once {
			t.Fatalf("%+v by %d, %d: %+v", s, grade, dev, once)
		}
		if once == s {
			kept++
		}
	}
	if kept < 5000 || kept > 45000 {
		t.Errorf("%d kept", kept)
	}
}

// followed is P13.3 word for word.
func followed(t api.Trend, x int) api.Trend {
	var n int
	if t.N != most {
		n = t.N + 1
	}
	if t.N == 0 {
		return api.Trend{Mean: fixed(x), N: n}
	}
	d := less(x, t.Mean)
	return api.Trend{
		Mean: plus(t.Mean, scaled(d, 1, 8)),
		Dev:  plus(t.Dev, scaled(less(max(d, -d), t.Dev), 1, 4)),
		N:    n,
	}
}

// near is P13.3 word for word.
func near(t api.Trend, x int) bool {
	d := less(x, t.Mean)
	return max(d, -d) <= plus(t.Dev, t.Dev)
}

func TestFollow(t *testing.T) { // P13.3
	for _, x := range []struct {
		t    api.Trend
		x    int
		want api.Trend
	}{
		{api.Trend{}, 0, api.Trend{N: 1}},
		{api.Trend{}, 800, api.Trend{Mean: 800, N: 1}},
		{api.Trend{}, -800, api.Trend{Mean: -800, N: 1}},
		{api.Trend{Mean: 7, Dev: 9}, 800, api.Trend{Mean: 800, N: 1}}, // what it was counts for nothing
		{api.Trend{Mean: least, Dev: most}, 800, api.Trend{Mean: 800, N: 1}},
		{api.Trend{}, top, api.Trend{Mean: top, N: 1}},
		{api.Trend{}, top + 1, api.Trend{Mean: top, N: 1}},
		{api.Trend{}, most, api.Trend{Mean: top, N: 1}},
		{api.Trend{}, -top - 1, api.Trend{Mean: -top, N: 1}},
		{api.Trend{}, least, api.Trend{Mean: -top, N: 1}},
		{api.Trend{Mean: 800, N: 1}, 1600, api.Trend{Mean: 900, Dev: 200, N: 2}},
		{api.Trend{Mean: 800, N: 1}, 0, api.Trend{Mean: 700, Dev: 200, N: 2}},
		{api.Trend{Mean: 900, Dev: 200, N: 2}, 900, api.Trend{Mean: 900, Dev: 150, N: 3}},
		{api.Trend{Mean: 900, Dev: 150, N: 3}, 100, api.Trend{Mean: 800, Dev: 313, N: 4}}, // 312 and a half
		{api.Trend{Mean: 10, N: 1}, 13, api.Trend{Mean: 10, Dev: 1, N: 2}},
		{api.Trend{Mean: 10, N: 1}, 14, api.Trend{Mean: 11, Dev: 1, N: 2}}, // a half
		{api.Trend{Mean: 10, N: 1}, 6, api.Trend{Mean: 9, Dev: 1, N: 2}},   // a half, turned
		{api.Trend{Mean: 10, N: 1}, 7, api.Trend{Mean: 10, Dev: 1, N: 2}},
		{api.Trend{Mean: 10, N: 1}, 21, api.Trend{Mean: 11, Dev: 3, N: 2}},
		{api.Trend{Mean: 10, N: 1}, 22, api.Trend{Mean: 12, Dev: 3, N: 2}},
		{api.Trend{Mean: 10, N: 1}, 11, api.Trend{Mean: 10, N: 2}},
		{api.Trend{Mean: 10, N: 1}, 12, api.Trend{Mean: 10, Dev: 1, N: 2}}, // half a part of spread
		{api.Trend{Mean: 10, Dev: 1, N: 1}, 10, api.Trend{Mean: 10, Dev: 1, N: 2}},
		{api.Trend{Mean: 10, Dev: 2, N: 1}, 10, api.Trend{Mean: 10, Dev: 1, N: 2}},
		{api.Trend{Mean: 10, Dev: 40, N: 1}, 20, api.Trend{Mean: 11, Dev: 32, N: 2}}, // 7 and a half less
		{api.Trend{Mean: 10, Dev: -40, N: 1}, 10, api.Trend{Mean: 10, Dev: -30, N: 2}},
		{api.Trend{Mean: 10, N: -1}, 18, api.Trend{Mean: 11, Dev: 2}},
		{api.Trend{Mean: 10, N: least}, 18, api.Trend{Mean: 11, Dev: 2, N: least + 1}},
		{api.Trend{Mean: 10, N: most - 1}, 18, api.Trend{Mean: 11, Dev: 2, N: most}},
		{api.Trend{Mean: 10, N: most}, 18, api.Trend{Mean: 11, Dev: 2}}, // behind the greatest int
		{api.Trend{Mean: -top, N: 1}, top, api.Trend{Mean: -top + top/8, Dev: top / 4, N: 2}},
		{api.Trend{Mean: top, N: 1}, -top, api.Trend{Mean: top - top/8, Dev: top / 4, N: 2}},
		{api.Trend{Mean: top, N: 1}, least, api.Trend{Mean: top - top/8, Dev: top / 4, N: 2}},
		{api.Trend{Mean: most, Dev: most, N: 1}, most, api.Trend{Mean: top, Dev: top - top/4, N: 2}}, // what is beyond means the ends
		{api.Trend{Mean: least, Dev: least, N: 1}, least, api.Trend{Mean: -top, Dev: -top + top/4, N: 2}},
		{api.Trend{Mean: least, Dev: least, N: 1}, most, api.Trend{Mean: -top + top/8, Dev: -top + top/4, N: 2}},
		{api.Trend{Mean: 0, Dev: top, N: 1}, top, api.Trend{Mean: top / 8, Dev: top, N: 2}},
	} {
		if got := Follow(x.t, x.x); got != x.want {
			t.Errorf("%+v, %d: %+v, not %+v", x.t, x.x, got, x.want)
		}
	}
}

func TestNear(t *testing.T) { // P13.3
	for i, x := range []struct {
		mean, dev, x int
		want         bool
	}{
		{0, 0, 0, true},
		{0, 0, 1, false},
		{0, 0, -1, false},
		{800, 313, 800, true},
		{800, 313, 1426, true}, // both sides of two times the spread
		{800, 313, 1427, false},
		{800, 313, 174, true},
		{800, 313, 173, false},
		{800, 0, 800, true},
		{800, 0, 801, false},
		{800, 0, 799, false},
		{-800, 5, -810, true},
		{-800, 5, -811, false},
		{-800, 5, -790, true},
		{-800, 5, -789, false},
		{-800, 5, 800, false},
		{800, -1, 800, false}, // nothing is nearer than 0
		{800, -1, 799, false},
		{800, least, 800, false},
		{0, -top, 0, false},
		{0, top / 2, top, true},
		{0, top / 2, -top, true},
		{0, top/2 - 1, top - 2, true},
		{0, top/2 - 1, top - 1, false},
		{0, top/2 - 1, top, false},
		{0, top/2 - 1, -top + 2, true},
		{0, top/2 - 1, -top + 1, false},
		{0, most, most, true}, // what is beyond means the ends
		{0, most, least, true},
		{most, 0, top, true},
		{top, 0, most, true},
		{least, 0, -top, true},
		{-top, 0, least, true},
		{least, 0, -top + 1, false},
		{most, 0, top - 1, false},
		{-top, top, top, true}, // both are held at the end: the distance, and two times the spread
		{-top, top / 2, top, true},
		{-top, top/2 - 1, top, false},
		{top, top / 2, -top, true},
		{top, top/2 - 1, -top, false},
		{least, most, most, true},
		{most, most, least, true},
		{most, 0, least, false},
	} {
		for _, n := range []int{0, 1, 5, -1, most} { // how many it followed counts for nothing
			if got := Near(api.Trend{Mean: x.mean, Dev: x.dev, N: n}, x.x); got != x.want {
				t.Errorf("%d: %t", i, got)
			}
		}
	}
}

func TestTrendsAreThoseOfTheirWords(t *testing.T) { // P13.3
	all := edges()
	for i, mean := range all {
		for j, x := range all {
			for k := range 8 {
				trend := api.Trend{Mean: mean, Dev: all[(i*3+j*5+k*13)%len(all)], N: all[(i+j+k)%len(all)]}
				if got, want := Follow(trend, x), followed(trend, x); got != want {
					t.Fatalf("%+v, %d: %+v, not %+v", trend, x, got, want)
				}
				if got, want := Near(trend, x), near(trend, x); got != want {
					t.Fatalf("%+v, %d: %t", trend, x, got)
				}
			}
		}
	}
	r := random(5)
	nears := 0
	for range 50000 {
		trend := api.Trend{Mean: r.any(), Dev: r.any(), N: r.around(0)}
		x := r.around(trend.Mean)
		if r.below(2) == 0 {
			x = r.around(trend.Mean + 2*trend.Dev)
		}
		if got, want := Follow(trend, x), followed(trend, x); got != want {
			t.Fatalf("%+v, %d: %+v, not %+v", trend, x, got, want)
		}
		got, want := Near(trend, x), near(trend, x)
		if got != want {
			t.Fatalf("%+v, %d: %t", trend, x, got)
		}
		if got {
			nears++
		}
	}
	if nears < 5000 || nears > 45000 {
		t.Errorf("%d near", nears)
	}
}

func TestUnits(t *testing.T) { // P13.4
	for _, x := range []struct{ rate, want int }{
		{0, 0}, {1, 1049}, {-1, -1049}, // 1048 and 576 of 1000
		{2, 2097}, {-2, -2097}, // and 152
		{1000, one}, {-1000, -one}, {1500, 1572864}, {999, 1047527}, {1001, 1049625}, {125, 131072},
		{1000000000, 1048576000000},
		{63, 66060}, {62, 65012}, // and 288; 65011 and 712
		{4398046511104000, top},
		{4398046511103999, top - 1049},
		{4398046511104001, top},
		{-4398046511104000, -top},
		{-4398046511103999, -top + 1049},
		{top, top}, {most, top}, {-top, -top}, {least, -top},
	} {
		if got, want := Units(x.rate), scaled(x.rate, one, 1000); got != want || got != x.want {
			t.Errorf("%d: %d, not %d", x.rate, got, x.want)
		}
	}
	r := random(7)
	for range 20000 {
		rate := r.any()
		if got, want := Units(rate), scaled(rate, one, 1000); got != want {
			t.Fatalf("%d: %d, not %d", rate, got, want)
		}
	}
	for _, rate := range edges() {
		if got, want := Units(rate), scaled(rate, one, 1000); got != want {
			t.Fatalf("%d: %d, not %d", rate, got, want)
		}
	}
}

// towards tells whether after is on the way from before to x, and moved, if that is not just beside it.
func towards(before, after, x int) bool {
	before, x = fixed(before), fixed(x)
	if d := less(x, before); -4 < d && d < 4 {
		return after == before
	}
	if before < x {
		return before < after && after <= x
	}
	return x <= after && after < before
}

func TestATrendGoesTowards(t *testing.T) { // P13.5
	r := random(6)
	for range 50000 {
		trend := api.Trend{Mean: r.any(), Dev: r.any(), N: 1 + r.below(9)}
		x := r.around(trend.Mean)
		if got := Follow(trend, x); !towards(trend.Mean, got.Mean, x) {
			t.Fatalf("%+v, %d: %+v", trend, x, got)
		}
	}
	for _, x := range edges() {
		for _, mean := range edges() {
			trend := api.Trend{Mean: mean, N: 1}
			for range 500 {
				next := Follow(trend, x)
				if !towards(trend.Mean, next.Mean, x) {
					t.Fatalf("%+v, %d: %+v", trend, x, next)
				}
				trend = next
			}
			if d := less(x, trend.Mean); d < -3 || d > 3 {
				t.Fatalf("from %d to %d: %d", mean, x, trend.Mean)
			}
		}
	}
}

func TestTheSpreadOfOneThatStaysFalls(t *testing.T) { // P13.5
	for _, x := range edges() {
		for _, dev := range edges() {
			trend := api.Trend{Mean: x, Dev: max(dev, 0), N: 1}
			for range 250 {
				next := Follow(trend, x)
				before := fixed(trend.Dev)
				if next.Mean != fixed(x) || next.Dev < 0 || next.Dev > before || before > 1 && next.Dev == before {
					t.Fatalf("%+v, %d: %+v", trend, x, next)
				}
				trend = next
			}
			if trend.Dev > 1 {
				t.Fatalf("%d from %d on: %d", x, dev, trend.Dev)
			}
		}
	}
	// From the first number on, it never is anything else.
	for _, x := range edges() {
		var trend api.Trend
		for i := range 20 {
			if trend = Follow(trend, x); trend != (api.Trend{Mean: fixed(x), N: i + 1}) {
				t.Fatalf("%d: %+v", x, trend)
			}
		}
	}
}
