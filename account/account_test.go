package account

import (
	"math"
	"math/big"
	"testing"

	"pacemaker/api"
)

const (
	lastTime = 1099511627776
	packets  = 1048576
	samples  = 1024
	span     = 60000000
	square   = 3600000000000000
	most     = math.MaxInt
	low      = math.MinInt
	// wrapping is less than 9000 times itself, and two of it are less than 0, where products and sums wrap round.
	wrapping = 3<<61 + most/9000
)

// field is one of a mi's, with the least and the greatest number that it may have where all others are those of some.
type field struct {
	name            string
	of              func(m *api.Mi) *int
	least, greatest int
}

// some is a right mi: 5 packets of 10000 bytes, of which 3 were acked, 2 of them with samples, and 1 was lost.
func some() api.Mi {
	return api.Mi{Id: 7, From: 1000, To: 2000, Sent: 10000, Acked: 4000, Lost: 2000, Packets: 5, Hits: 3, Drops: 1, N: 2, SumT: 30, SumR: 40, SumTT: 500, SumTR: 600, SumRR: 800}
}

func fields() []field {
	return []field{
		{"Id", func(m *api.Mi) *int { return &m.Id }, 0, most},
		{"From", func(m *api.Mi) *int { return &m.From }, 0, 2000},
		{"To", func(m *api.Mi) *int { return &m.To }, 1000, lastTime}, // and -1
		{"Sent", func(m *api.Mi) *int { return &m.Sent }, 6001, 45000},
		{"Acked", func(m *api.Mi) *int { return &m.Acked }, 3, 7999},
		{"Lost", func(m *api.Mi) *int { return &m.Lost }, 1, 5999},
		{"Packets", func(m *api.Mi) *int { return &m.Packets }, 5, 10000}, // as many as Sent, at most
		{"Hits", func(m *api.Mi) *int { return &m.Hits }, 2, 3},           // as many as N, at least
		{"Drops", func(m *api.Mi) *int { return &m.Drops }, 1, 1},
		{"N", func(m *api.Mi) *int { return &m.N }, 1, 3},
		{"SumT", func(m *api.Mi) *int { return &m.SumT }, 0, 2 * span},
		{"SumR", func(m *api.Mi) *int { return &m.SumR }, 0, 2 * span},
		{"SumTT", func(m *api.Mi) *int { return &m.SumTT }, 0, 2 * square},
		{"SumTR", func(m *api.Mi) *int { return &m.SumTR }, 0, 2 * square},
		{"SumRR", func(m *api.Mi) *int { return &m.SumRR }, 0, 2 * square},
	}
}

func bigOf(n int) *big.Int { return big.NewInt(int64(n)) }

// between tells whether n is from least to greatest times so many, without bounds.
func between(n, least, greatest, times int) bool {
	return n >= least && bigOf(n).Cmp(new(big.Int).Mul(bigOf(greatest), bigOf(times))) <= 0
}

func plus(a, b int) *big.Int { return new(big.Int).Add(bigOf(a), bigOf(b)) }

// isRight is what the chapter says of right accounts, word for word and without bounds.
func isRight(m api.Mi) bool {
	counts, bytes := plus(m.Hits, m.Drops), plus(m.Acked, m.Lost)
	return m.Id >= 0 &&
		between(m.From, 0, lastTime, 1) &&
		(m.To == -1 || between(m.To, 0, lastTime, 1) && m.To >= m.From) &&
		between(m.Packets, 0, packets, 1) &&
		m.Hits >= 0 && m.Drops >= 0 && counts.Cmp(bigOf(m.Packets)) <= 0 &&
		between(m.Sent, m.Packets, m.Packets, 9000) && between(m.Acked, m.Hits, m.Hits, 9000) && between(m.Lost, m.Drops, m.Drops, 9000) &&
		bytes.Cmp(bigOf(m.Sent)) <= 0 && (bytes.Cmp(bigOf(m.Sent)) == 0) == (counts.Cmp(bigOf(m.Packets)) == 0) &&
		between(m.N, 0, samples, 1) && m.N <= m.Hits &&
		between(m.SumT, 0, m.N, span) && between(m.SumR, 0, m.N, span) &&
		between(m.SumTT, 0, m.N, square) && between(m.SumTR, 0, m.N, square) && between(m.SumRR, 0, m.N, square)
}

func isDone(m api.Mi) bool {
	return isRight(m) && m.To != -1 && plus(m.Hits, m.Drops).Cmp(bigOf(m.Packets)) == 0
}

// look holds what Is and Done tell against the chapter's words, and asks that the steps refuse just what is not right.
func look(t *testing.T, m api.Mi) {
	t.Helper()
	right := isRight(m)
	if Is(m) != right || Done(m) != isDone(m) {
		t.Fatalf("%+v: Is %t, Done %t", m, Is(m), Done(m))
	}
	// No size, no times: of a right mi this is told, of all others that they are not right.
	wantSize, wantSpan := api.ErrSize, api.ErrSpan
	if m.To != -1 {
		wantSpan = api.ErrShut
	}
	if !right {
		wantSize, wantSpan = api.ErrArg, api.ErrArg
	}
	refuses(t, "Send", wantSize)(Send(m, 0))
	refuses(t, "Ack", wantSize)(Ack(m, 0, -1, -1))
	refuses(t, "Lose", wantSize)(Lose(m, 0))
	refuses(t, "Close", wantSpan)(Close(m, -1))
}

// refuses asks for an error, and for nothing beside it.
func refuses(t *testing.T, what string, want api.Errno) func(m api.Mi, e api.Errno) {
	t.Helper()
	return func(m api.Mi, e api.Errno) {
		t.Helper()
		if e != want || m != (api.Mi{}) {
			t.Errorf("%s: %d, not %d, and %+v", what, e, want, m)
		}
	}
}

// tells asks for a right mi, which is the one that is wanted, and no error.
func tells(t *testing.T, what string, want api.Mi) func(m api.Mi, e api.Errno) {
	t.Helper()
	return func(m api.Mi, e api.Errno) {
		t.Helper()
		if e != api.OK || m != want || !isRight(m) {
			t.Errorf("%s: %d and\n%+v, not\n%+v", what, e, m, want)
		}
	}
}

// each calls what with all ways to give these fields numbers of values.
func each(ns []*int, values [][]int, what func()) {
	if len(ns) == 0 {
		what()
		return
	}
	for _, n := range values[0] {
		*ns[0] = n
		each(ns[1:], values[1:], what)
	}
}

func TestIsOfEachField(t *testing.T) { // P9.1
	for _, f := range fields() {
		for _, n := range []int{low, low + 1, -1 << 40, -2, -1, 0, 1, f.least - 1, f.least, f.least + 1, f.greatest - 1, f.greatest, f.greatest + 1, most - 1, most} {
			m := some()
			*f.of(&m) = n
			want := n >= f.least && n <= f.greatest || f.name == "To" && n == -1
			if Is(m) != want {
				t.Errorf("%s %d: %t", f.name, n, !want)
			}
			look(t, m)
		}
	}
}

func TestIsOfFieldsTogether(t *testing.T) { // P9.1
	for i, x := range []struct {
		set  func(m *api.Mi)
		want bool
	}{
		{func(m *api.Mi) {}, true},
		{func(m *api.Mi) { *m = api.Mi{} }, true}, // a mi of no packets, from 0 to 0
		{func(m *api.Mi) { *m = api.Mi{To: -1} }, true},
		{func(m *api.Mi) { m.From, m.To = lastTime, lastTime }, true},
		{func(m *api.Mi) { m.From, m.To = lastTime, -1 }, true},
		{func(m *api.Mi) { m.From, m.To = lastTime, lastTime-1 }, false},
		{func(m *api.Mi) { m.From, m.To = lastTime+1, lastTime+1 }, false},
		{func(m *api.Mi) { m.From, m.To = lastTime+1, -1 }, false},
		{func(m *api.Mi) { m.From, m.To = -1, -1 }, false},
		{func(m *api.Mi) { m.From, m.To = -2, -2 }, false},
		{func(m *api.Mi) { m.From, m.To = 0, 0 }, true},
		{func(m *api.Mi) { m.Packets, m.Sent = packets, packets }, true},
		{func(m *api.Mi) { m.Packets, m.Sent = packets, 9000*packets }, true},
		{func(m *api.Mi) { m.Packets, m.Sent = packets, packets-1 }, false},
		{func(m *api.Mi) { m.Packets, m.Sent = packets, 9000*packets+1 }, false},
		{func(m *api.Mi) { m.Packets, m.Sent = packets+1, packets+1 }, false},
		{func(m *api.Mi) { m.Packets, m.Sent = most, most }, false},
		{func(m *api.Mi) { *m = api.Mi{Sent: 1} }, false}, // bytes without packets
		{func(m *api.Mi) { *m = api.Mi{Packets: 1} }, false},
		{func(m *api.Mi) { *m = api.Mi{Packets: 1, Sent: 2, Acked: 1} }, false},
		{func(m *api.Mi) { *m = api.Mi{Packets: 1, Sent: 2, Lost: 1} }, false},
		{func(m *api.Mi) { *m = api.Mi{Packets: 2, Sent: 2, Hits: 1} }, false},
		{func(m *api.Mi) { *m = api.Mi{Packets: 2, Sent: 2, Drops: 1} }, false},
		{func(m *api.Mi) { *m = api.Mi{Packets: 2, Sent: 18000, Hits: 1, Acked: 9001} }, false},
		{func(m *api.Mi) { *m = api.Mi{Packets: 2, Sent: 18000, Drops: 1, Lost: 9001} }, false},
		{func(m *api.Mi) { *m = api.Mi{Packets: 2, Sent: 18000, Hits: 1, Acked: 9000} }, true},
		{func(m *api.Mi) { *m = api.Mi{Packets: 2, Sent: 18000, Drops: 1, Lost: 9000} }, true},
		{func(m *api.Mi) { m.Hits, m.Drops, m.Acked, m.Lost = 3, 2, 6000, 4000 }, true}, // all were told, and all bytes
		{func(m *api.Mi) { m.Hits, m.Drops, m.Acked, m.Lost = 3, 2, 6000, 3999 }, false},
		{func(m *api.Mi) { m.Hits, m.Drops, m.Acked, m.Lost = 3, 2, 6000, 4001 }, false},
		{func(m *api.Mi) { m.Hits, m.Drops, m.Acked, m.Lost = 3, 1, 6000, 4000 }, false}, // one is left, without bytes
		{func(m *api.Mi) { m.Hits, m.Drops, m.Acked, m.Lost = 3, 1, 6000, 4001 }, false},
		{func(m *api.Mi) { m.Hits, m.Drops, m.Acked, m.Lost = 3, 1, 6000, 3999 }, true},
		{func(m *api.Mi) { m.Hits, m.Drops, m.Acked, m.Lost = 4, 2, 6000, 4000 }, false},
		{func(m *api.Mi) { m.Hits, m.Drops, m.Acked, m.Lost = 5, 0, 10000, 0 }, true},
		{func(m *api.Mi) { m.Hits, m.Drops, m.Acked, m.Lost = 6, -1, 10001, -1 }, false},
		{func(m *api.Mi) { m.N, m.Hits, m.Drops, m.Acked, m.Lost = 0, 0, 5, 0, 10000 }, false}, // sums without samples
		{func(m *api.Mi) { *m = api.Mi{Packets: 5, Sent: 10000, Drops: 5, Lost: 10000} }, true},
		{func(m *api.Mi) { m.Hits, m.Drops = most, 1 }, false}, // sums that wrap round
		{func(m *api.Mi) { m.Hits, m.Drops, m.Acked, m.Lost = most, most, most, most }, false},
		{func(m *api.Mi) { m.Hits, m.Drops, m.Acked, m.Lost = wrapping, wrapping, wrapping, wrapping }, false},
		{func(m *api.Mi) { m.Acked, m.Lost = most, most }, false},
		{func(m *api.Mi) { m.Hits, m.Drops, m.Acked, m.Lost = low, low, low, low }, false},
		{func(m *api.Mi) { m.N, m.SumT, m.SumR, m.SumTT, m.SumTR, m.SumRR = 0, 0, 0, 0, 0, 0 }, true},
		{func(m *api.Mi) { m.N = 4 }, false},
		{func(m *api.Mi) { *m = api.Mi{N: 1} }, false},
	} {
		m := some()
		x.set(&m)
		if Is(m) != x.want {
			t.Errorf("%d: %t", i, !x.want)
		}
		look(t, m)
	}
}

// full is a right mi with all samples that it may have, and sums at their ends.
func full() api.Mi {
	return api.Mi{To: -1, Sent: 2000, Acked: 1500, Packets: 2000, Hits: 1500, N: samples, SumT: samples * span, SumR: samples * span, SumTT: samples * square, SumTR: samples * square, SumRR: samples * square}
}

func TestIsOfAllSamples(t *testing.T) { // P9.1
	if m := full(); !Is(m) {
		t.Errorf("%+v", m)
	}
	for i, spoil := range []func(m *api.Mi){
		func(m *api.Mi) { m.N++ }, func(m *api.Mi) { m.N-- }, func(m *api.Mi) { m.Hits, m.Acked = 1023, 1023 },
		func(m *api.Mi) { m.SumT++ }, func(m *api.Mi) { m.SumR++ }, func(m *api.Mi) { m.SumTT++ }, func(m *api.Mi) { m.SumTR++ }, func(m *api.Mi) { m.SumRR++ },
		func(m *api.Mi) { m.SumT = -1 }, func(m *api.Mi) { m.SumR = -1 }, func(m *api.Mi) { m.SumTT = -1 }, func(m *api.Mi) { m.SumTR = -1 }, func(m *api.Mi) { m.SumRR = -1 },
	} {
		m := full()
		spoil(&m)
		if Is(m) {
			t.Errorf("%d: %+v", i, m)
		}
		look(t, m)
	}
}

func TestIsIsThatOfItsWords(t *testing.T) { // P9.1
	m := some()
	edges := []int{low, -2, -1, 0, 1, lastTime - 1, lastTime, lastTime + 1, most}
	each([]*int{&m.Id, &m.From, &m.To}, [][]int{{low, -1, 0, 1, most}, edges, edges}, func() { look(t, m) })
	m = api.Mi{To: -1}
	right, counts := 0, []int{low, -1, 0, 1, 2, 3, most}
	bytes := []int{low, -1, 0, 1, 2, 3, 8999, 9000, 9001, 17999, 18000, 18001, 27000, 27001, most}
	each([]*int{&m.Packets, &m.Hits, &m.Drops, &m.Sent, &m.Acked, &m.Lost}, [][]int{counts, counts, counts, bytes, bytes, bytes}, func() {
		if want := isRight(m); Is(m) != want {
			t.Fatalf("%+v: %t", m, !want)
		} else if want {
			right++
		}
	})
	if right < 100 {
		t.Errorf("%d were right", right)
	}
	sums := []int{low, -1, 0, 1, span, 2 * span, 2*span + 1}
	squares := []int{-1, 0, square, 2 * square, 2*square + 1, most}
	m = some()
	each([]*int{&m.N, &m.SumT, &m.SumR, &m.SumTT, &m.SumTR, &m.SumRR}, [][]int{{low, -1, 0, 1, 2, 3, 4, samples, samples + 1, most}, sums, sums, squares, squares, squares}, func() {
		if want := isRight(m); Is(m) != want {
			t.Fatalf("%+v: %t", m, !want)
		}
	})
}

func TestOpen(t *testing.T) { // P9.1
	for _, id := range []int{low, -2, -1, 0, 1, 3, 1 << 40, most - 1, most} {
		for _, at := range []int{low, -2, -1, 0, 1, 100, lastTime - 1, lastTime, lastTime + 1, most} {
			if id < 0 || at < 0 || at > lastTime {
				refuses(t, "Open", api.ErrArg)(Open(id, at))
			} else {
				tells(t, "Open", api.Mi{Id: id, From: at, To: -1})(Open(id, at))
			}
		}
	}
}

func TestClose(t *testing.T) { // P9.1
	open, ended := some(), some()
	open.To = -1
	for _, at := range []int{low, -2, -1, 0, 999, 1000, 1001, 2000, lastTime - 1, lastTime, lastTime + 1, most} {
		refuses(t, "Close", api.ErrShut)(Close(ended, at)) // whether at is a time, or not
		if at < 1000 || at > lastTime {
			refuses(t, "Close", api.ErrSpan)(Close(open, at))
			continue
		}
		want := open
		want.To = at
		tells(t, "Close", want)(Close(open, at))
	}
	last := api.Mi{From: lastTime, To: -1}
	tells(t, "Close", api.Mi{From: lastTime, To: lastTime})(Close(last, lastTime))
	refuses(t, "Close", api.ErrSpan)(Close(last, lastTime-1))
	tells(t, "Close", api.Mi{})(Close(api.Mi{To: -1}, 0))
	open.Lost = 0
	refuses(t, "Close", api.ErrArg)(Close(open, -1))
	ended.Lost = 0
	refuses(t, "Close", api.ErrArg)(Close(ended, 2000))
}

func TestDone(t *testing.T) { // P9.1
	for i, x := range []struct {
		m    api.Mi
		want bool
	}{
		{api.Mi{}, true}, // it has ended, and nothing was sent
		{api.Mi{To: -1}, false},
		{some(), false}, // one is left
		{api.Mi{To: 5, Packets: 3, Sent: 30, Hits: 2, Acked: 20, Drops: 1, Lost: 10}, true},
		{api.Mi{To: -1, Packets: 3, Sent: 30, Hits: 2, Acked: 20, Drops: 1, Lost: 10}, false},
		{api.Mi{To: 5, Packets: 3, Sent: 30, Hits: 3, Acked: 30}, true},
		{api.Mi{To: 5, Packets: 3, Sent: 30, Drops: 3, Lost: 30}, true},
		{api.Mi{To: 5, Packets: 3, Sent: 30, Hits: 1, Acked: 20, Drops: 1, Lost: 9}, false},
		{api.Mi{To: 5, Packets: 3, Sent: 30}, false},
		{api.Mi{To: 5, Packets: 3, Sent: 30, Hits: 2, Acked: 20, Drops: 1, Lost: 9}, false}, // not right
		{api.Mi{From: 6, To: 5}, false},
		{api.Mi{To: -2}, false},
		{api.Mi{Id: -1}, false},
	} {
		if Done(x.m) != x.want {
			t.Errorf("%d: %t", i, !x.want)
		}
	}
}

// sizes are such, and others, at the ends of what is one.
func sizes() []int {
	return []int{low, low + 1, -1 << 40, -1500, -1, 0, 1, 2, 1500, 8999, 9000, 9001, 1 << 40, most - 1, most}
}

func isNone(size int) bool { return size < 1 || size > 9000 }

func TestSend(t *testing.T) { // P9.2
	ended := some()
	open := ended
	open.To = -1
	bad := open
	bad.N = 4
	last := api.Mi{To: -1, Packets: packets - 1, Sent: packets - 1}
	whole := api.Mi{To: -1, Packets: packets, Sent: packets}
	closed := whole
	closed.To = 5
	for _, size := range sizes() {
		refuses(t, "Send of what is not right", api.ErrArg)(Send(bad, size))
		if isNone(size) {
			for _, m := range []api.Mi{open, ended, last, whole, closed} {
				refuses(t, "Send of no size", api.ErrSize)(Send(m, size))
			}
			continue
		}
		refuses(t, "Send to what has ended", api.ErrShut)(Send(ended, size))
		refuses(t, "Send to what is full and has ended", api.ErrShut)(Send(closed, size))
		refuses(t, "Send to what is full", api.ErrFull)(Send(whole, size))
		want := open
		want.Packets, want.Sent = 6, 10000+size
		tells(t, "Send", want)(Send(open, size))
		want = last
		want.Packets, want.Sent = packets, packets-1+size
		tells(t, "Send of the last one", want)(Send(last, size))
		tells(t, "Send of the first one", api.Mi{To: -1, Packets: 1, Sent: size})(Send(api.Mi{To: -1}, size))
	}
	// The greatest number of bytes, and packets that follow when all of those ahead of them were told.
	tells(t, "Send", api.Mi{To: -1, Packets: packets, Sent: 9000 * packets})(Send(api.Mi{To: -1, Packets: packets - 1, Sent: 9000 * (packets - 1)}, 9000))
	tells(t, "Send", api.Mi{To: -1, Packets: 3, Sent: 12, Hits: 1, Acked: 5, Drops: 1, Lost: 6})(Send(api.Mi{To: -1, Packets: 2, Sent: 11, Hits: 1, Acked: 5, Drops: 1, Lost: 6}, 1))
}

func TestLose(t *testing.T) { // P9.3
	bad := some()
	bad.SumT = -1
	for _, to := range []int{-1, 2000} { // also behind its end
		for _, left := range []int{1, 2} {
			m := some()
			m.To, m.Packets = to, 4+left
			for _, size := range append(sizes(), 3999, 4000, 4001) {
				refuses(t, "Lose of what is not right", api.ErrArg)(Lose(bad, size))
				want := m
				want.Drops, want.Lost = 2, 2000+size
				switch {
				case isNone(size):
					refuses(t, "Lose of no size", api.ErrSize)(Lose(m, size))
				case size == 4000 && left == 1 || size < 4000 && left == 2:
					tells(t, "Lose", want)(Lose(m, size))
				default:
					refuses(t, "Lose of what is no rest", api.ErrRange)(Lose(m, size))
				}
			}
		}
	}
	all := some()
	all.Drops, all.Lost = 2, 6000
	for _, size := range []int{1, 4000, 9000} {
		refuses(t, "Lose when none is left", api.ErrRange)(Lose(all, size))
	}
	refuses(t, "Lose of nothing", api.ErrRange)(Lose(api.Mi{To: -1}, 1))
	tells(t, "Lose", api.Mi{To: -1, Packets: 1, Sent: 9000, Drops: 1, Lost: 9000})(Lose(api.Mi{To: -1, Packets: 1, Sent: 9000}, 9000))
	tells(t, "Lose", api.Mi{To: -1, Packets: 1, Sent: 1, Drops: 1, Lost: 1})(Lose(api.Mi{To: -1, Packets: 1, Sent: 1}, 1))
}

func TestAckOfSizes(t *testing.T) { // P9.3
	bad := some()
	bad.Hits = 6
	for _, to := range []int{-1, 2000} {
		for _, left := range []int{1, 2} {
			m := some()
			m.To, m.Packets = to, 4+left
			for _, size := range append(sizes(), 3999, 4000, 4001) {
				refuses(t, "Ack of what is not right", api.ErrArg)(Ack(bad, size, -1, -1))
				want := m
				want.Hits, want.Acked, want.N, want.SumT, want.SumR, want.SumTT, want.SumTR, want.SumRR = 4, 4000+size, 3, 36, 47, 536, 642, 849
				switch {
				case isNone(size):
					refuses(t, "Ack of no size", api.ErrSize)(Ack(m, size, 1006, 1013))
					refuses(t, "Ack of no size, nor times", api.ErrSize)(Ack(m, size, 5, 4))
				case size == 4000 && left == 1 || size < 4000 && left == 2:
					tells(t, "Ack", want)(Ack(m, size, 1006, 1013))
				default:
					refuses(t, "Ack of what is no rest", api.ErrRange)(Ack(m, size, 1006, 1013))
					refuses(t, "Ack of what is no rest, and no sample", api.ErrRange)(Ack(m, size, 5, 13))
					refuses(t, "Ack of what is no rest, nor times", api.ErrSpan)(Ack(m, size, 5, 4))
				}
			}
		}
	}
	all := some()
	all.Hits, all.Acked = 4, 8000
	for _, size := range []int{1, 4000, 9000} {
		refuses(t, "Ack when none is left", api.ErrRange)(Ack(all, size, 1006, 1013))
	}
	refuses(t, "Ack of nothing", api.ErrRange)(Ack(api.Mi{To: -1}, 1, 0, 0))
}

func TestAckOfTimes(t *testing.T) { // P9.3
	times := []int{low, -lastTime, -1, 0, 1, 99, 100, 101, 5000, 100 + span - 1, 100 + span, 100 + span + 1, 101 + span, 5000 + span, 5001 + span, 100 + 2*span, 101 + 2*span, lastTime - span - 1, lastTime - span, lastTime - 1, lastTime, lastTime + 1, most}
	m := api.Mi{From: 100, To: 200, Packets: 5, Sent: 50, Hits: 1, Acked: 10, N: 1, SumT: 1, SumR: 2, SumTT: 3, SumTR: 4, SumRR: 5}
	for _, sent := range times {
		for _, at := range times {
			if sent < 0 || sent > lastTime || at < 0 || at > lastTime || at < sent {
				refuses(t, "Ack of no times", api.ErrSpan)(Ack(m, 7, sent, at))
				continue
			}
			want := m
			want.Hits, want.Acked = 2, 17
			if x, r := sent-100, at-sent; sent >= 100 && x <= 60000000 && r <= 60000000 {
				want.N, want.SumT, want.SumR, want.SumTT, want.SumTR, want.SumRR = 2, 1+x, 2+r, 3+x*x, 4+x*r, 5+r*r
			}
			tells(t, "Ack", want)(Ack(m, 7, sent, at))
		}
	}
}

func TestAckOfTheLastSamples(t *testing.T) { // P9.3
	m := full()
	want := m
	want.Hits, want.Acked = 1501, 1501
	tells(t, "Ack of one more than all samples", want)(Ack(m, 1, 5, 7))
	m.N, m.SumT, m.SumR, m.SumTT, m.SumTR, m.SumRR = 1023, 1023*span, 1023*span, 1023*square, 1023*square, 1023*square
	want.N, want.SumT, want.SumR, want.SumTT, want.SumTR, want.SumRR = samples, m.SumT+5, m.SumR+2, m.SumTT+25, m.SumTR+10, m.SumRR+4
	tells(t, "Ack of the last sample", want)(Ack(m, 1, 5, 7))
	want = full()
	want.Hits, want.Acked = 1501, 1501
	tells(t, "Ack of the last and greatest sample", want)(Ack(m, 1, span, 2*span))
	m.Packets, m.Sent, m.Hits, m.Acked = 1500, 1500, 1499, 1499
	want.Packets, want.Sent, want.Hits, want.Acked = 1500, 1500, 1500, 1500
	tells(t, "Ack of the last packet", want)(Ack(m, 1, span, 2*span))
	refuses(t, "Ack of one more than all packets", api.ErrRange)(Ack(want, 1, 5, 7))
}

// kept asks that a step was not refused, and hands on what it made.
func kept(t *testing.T) func(m api.Mi, e api.Errno) api.Mi {
	t.Helper()
	return func(m api.Mi, e api.Errno) api.Mi {
		t.Helper()
		if e != api.OK || !isRight(m) || !Is(m) {
			t.Fatalf("%d, %+v", e, m)
		}
		return m
	}
}

func TestTheExample(t *testing.T) { // P9.1, P9.2, P9.3
	ok := kept(t)
	m := ok(Open(3, 100))
	m = ok(Send(m, 1500))
	m = ok(Send(m, 500))
	m = ok(Ack(m, 1500, 110, 160))
	m = ok(Lose(m, 500))
	if Done(m) {
		t.Errorf("done, and not ended: %+v", m)
	}
	m = ok(Close(m, 200))
	if !Done(m) || m != (api.Mi{Id: 3, From: 100, To: 200, Sent: 2000, Acked: 1500, Lost: 500, Packets: 2, Hits: 1, Drops: 1, N: 1, SumT: 10, SumR: 50, SumTT: 100, SumTR: 500, SumRR: 2500}) {
		t.Errorf("%+v", m)
	}
}

// told is what becomes of a packet: its size, whether it is lost, and its times.
type told struct {
	size, sent, at int
	lost           bool
}

func tell(m api.Mi, x told) (api.Mi, api.Errno) {
	if x.lost {
		return Lose(m, x.size)
	}
	return Ack(m, x.size, x.sent, x.at)
}

// inAllOrders calls what with each order of l from its place at.
func inAllOrders(l []told, at int, what func()) {
	if at == len(l) {
		what()
		return
	}
	for i := at; i < len(l); i++ {
		l[at], l[i] = l[i], l[at]
		inAllOrders(l, at+1, what)
		l[at], l[i] = l[i], l[at]
	}
}

func TestOrdersOfHitsAndDrops(t *testing.T) { // P9.4
	ok := kept(t)
	l := []told{{1500, 110, 160, false}, {9000, 0, 0, true}, {1, 99, 300, false}, {700, 100 + span, 100 + 2*span, false}, {8, 0, 0, true}, {700, 120, 121 + span, false}}
	open := ok(Open(3, 100))
	for _, x := range l {
		open = ok(Send(open, x.size))
	}
	want := api.Mi{Id: 3, From: 100, To: 400, Sent: 11909, Acked: 2901, Lost: 9008, Packets: 6, Hits: 4, Drops: 2, N: 2, SumT: 10 + span, SumR: 50 + span, SumTT: 100 + square, SumTR: 500 + square, SumRR: 2500 + square}
	orders := 0
	inAllOrders(l, 0, func() {
		// It ends ahead of all, behind all, or between two.
		end := orders % (len(l) + 1)
		orders++
		m := open
		for i, x := range l {
			if i == end {
				m = ok(Close(m, 400))
			}
			m = ok(tell(m, x))
		}
		if end == len(l) {
			m = ok(Close(m, 400))
		}
		if m != want || !Done(m) {
			t.Fatalf("%v: %+v", l, m)
		}
	})
	if orders != 720 {
		t.Errorf("%d orders", orders)
	}
}

// random makes the same numbers at each run.
type random uint64

func (r *random) below(n int) int {
	*r = *r*6364136223846793005 + 1442695040888963407
	return int(uint64(*r)>>33) % n
}

// one is a number of those at which something turns, or of the small ones.
func (r *random) one() int {
	l := []int{low, -1, 0, 1, 2, 3, 8999, 9000, 9001, span - 1, span, span + 1, lastTime - span, lastTime, lastTime + 1, most}
	if r.below(3) > 0 {
		return r.below(5)
	}
	return l[r.below(len(l))]
}

// step does any of the steps, with any numbers.
func (r *random) step(m api.Mi) (api.Mi, api.Errno) {
	switch r.below(16) {
	case 0:
		return Close(m, r.one())
	case 1, 2, 3, 4, 5:
		return Lose(m, r.one())
	case 6, 7, 8, 9, 10:
		return Ack(m, r.one(), r.one(), r.one())
	}
	return Send(m, r.one())
}

func TestWhatIsRightStaysSo(t *testing.T) { // P9.4
	r := random(1)
	done, refusals := 0, 0
	for range 3000 {
		m, e := Open(r.below(9), r.one())
		if e != api.OK {
			continue
		}
		for range 60 {
			next, e := r.step(m)
			if e != api.OK {
				refusals++
				refuses(t, "any step", e)(next, e)
				continue
			}
			if !isRight(next) || !Is(next) || next == m {
				t.Fatalf("%+v\nleads to %+v", m, next)
			}
			m = next
		}
		if Done(m) != isDone(m) {
			t.Fatalf("%+v", m)
		} else if isDone(m) {
			done++
		}
	}
	if done < 100 || refusals < 1000 {
		t.Errorf("%d were done, %d were refused", done, refusals)
	}
}

// What is refused leaves what was handed in as it was, so that all goes on from there as if nothing had been asked.
func TestWhatIsRefusedLeavesNothing(t *testing.T) { // P9.4
	m := some()
	m.To = -1
	refuses(t, "Lose", api.ErrRange)(Lose(m, 3999))
	refuses(t, "Ack", api.ErrRange)(Ack(m, 4001, 1006, 1013))
	refuses(t, "Send", api.ErrSize)(Send(m, 9001))
	refuses(t, "Close", api.ErrSpan)(Close(m, 999))
	want := some()
	want.Hits, want.Acked, want.N, want.SumT, want.SumR, want.SumTT, want.SumTR, want.SumRR = 4, 8000, 3, 36, 47, 536, 642, 849
	m = kept(t)(Close(kept(t)(Ack(m, 4000, 1006, 1013)), 2000))
	if m != want || !Done(m) {
		t.Errorf("%+v", m)
	}
}
