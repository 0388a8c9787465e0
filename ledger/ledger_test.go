package ledger

import (
	"math"
	"math/big"
	"slices"
	"testing"

	"pacemaker/api"
)

const (
	end      = math.MaxUint64
	most     = math.MaxInt
	least    = math.MinInt
	lastTime = 1099511627776
	mostRoom = 4096
)

// made is a ledger that can be made.
func made(t *testing.T, room int, first uint64) *Ledger {
	t.Helper()
	l, wrong := New(room, first)
	if l == nil || wrong != api.OK {
		t.Fatalf("room %d, from %d on: %d", room, first, wrong)
	}
	return l
}

// sent sends a packet that can be sent.
func sent(t *testing.T, l *Ledger, mi, size, at int) api.Pkt {
	t.Helper()
	seq, wrong := l.Send(mi, size, at)
	if wrong != api.OK {
		t.Fatalf("%d, %d, %d: %d", mi, size, at, wrong)
	}
	return api.Pkt{Seq: seq, Mi: mi, Size: size, Sent: at}
}

// looks tells what is wrong with what a ledger tells of itself.
func looks(t *testing.T, l *Ledger, next uint64, free int, open ...api.Pkt) {
	t.Helper()
	if l.Next() != next || l.Free() != free || !slices.Equal(l.Open(), open) {
		t.Fatalf("next %d, free %d, open %v, not %d, %d, %v", l.Next(), l.Free(), l.Open(), next, free, open)
	}
}

func TestNew(t *testing.T) { // P11.1
	for _, first := range []uint64{0, 1, 7, 1<<63 - 1, 1 << 63, end - 1, end} {
		for _, room := range []int{1, 2, 3, 1000, mostRoom - 1, mostRoom} {
			looks(t, made(t, room, first), first, room)
		}
		for _, room := range []int{0, -1, -mostRoom, least, mostRoom + 1, 1 << 32, 1<<32 + 1, most} {
			if l, wrong := New(room, first); l != nil || wrong != api.ErrArg {
				t.Errorf("room %d: %v, %d", room, l, wrong)
			}
		}
	}
}

func TestTheChaptersExamples(t *testing.T) { // P11.1, P11.2, P11.3
	l := made(t, 2, 7)
	seven, eight := sent(t, l, 0, 100, 5), sent(t, l, 0, 200, 6)
	if seven.Seq != 7 || eight.Seq != 8 {
		t.Errorf("%v, %v", seven, eight)
	}
	if seq, wrong := l.Send(0, 1, 6); seq != 0 || wrong != api.ErrFull {
		t.Errorf("%d, %d", seq, wrong)
	}
	if p, wrong := l.Take(8); p != (api.Pkt{Seq: 8, Size: 200, Sent: 6}) || wrong != api.OK {
		t.Errorf("%v, %d", p, wrong)
	}
	if p, wrong := l.Take(8); p != (api.Pkt{}) || wrong != api.ErrTwice {
		t.Errorf("%v, %d", p, wrong)
	}
	if p, wrong := l.Take(9); p != (api.Pkt{}) || wrong != api.ErrNone {
		t.Errorf("%v, %d", p, wrong)
	}
	nine := sent(t, l, 1, 1, 6)
	if gone := l.Expire(15, 10); nine.Seq != 9 || !slices.Equal(gone, []api.Pkt{{Seq: 7, Size: 100, Sent: 5}}) {
		t.Errorf("%v, %v", nine, gone)
	}
	looks(t, l, 10, 1, nine)
}

func TestRoomToTheLast(t *testing.T) { // P11.1, P11.2
	for _, room := range []int{1, 2, 5, 300, mostRoom} {
		l := made(t, room, 40)
		var open []api.Pkt
		for n := range room {
			if n < 100 { // not all of many
				looks(t, l, 40+uint64(n), room-n, open...)
			}
			p := sent(t, l, n, 1+n, 3*n)
			if p.Seq != 40+uint64(n) {
				t.Fatalf("%d: %v", n, p)
			}
			open = append(open, p)
		}
		looks(t, l, 40+uint64(room), 0, open...)
		if seq, wrong := l.Send(0, 1, lastTime); seq != 0 || wrong != api.ErrFull {
			t.Errorf("%d: %d, %d", room, seq, wrong)
		}
		looks(t, l, 40+uint64(room), 0, open...)
	}
}

func TestWhatIsSentIsKeptAsItIs(t *testing.T) { // P11.2, P11.3
	for _, x := range []api.Pkt{
		{Seq: 3, Mi: 0, Size: 1, Sent: 0}, {Seq: 0, Mi: most, Size: 9000, Sent: lastTime}, {Seq: end - 1, Mi: 1, Size: 8999, Sent: lastTime - 1}, {Seq: 1 << 63, Mi: 1 << 40, Size: 2, Sent: 1},
	} {
		l := made(t, 1, x.Seq)
		if p := sent(t, l, x.Mi, x.Size, x.Sent); p != x {
			t.Errorf("%v, not %v", p, x)
		}
		looks(t, l, x.Seq+1, 0, x)
		if p, wrong := l.Take(x.Seq); p != x || wrong != api.OK {
			t.Errorf("%v, %d, not %v", p, wrong, x)
		}
		looks(t, l, x.Seq+1, 1)
	}
}

// What refuses a packet, and of several the first.
func TestRefusedPackets(t *testing.T) { // P11.2
	wrongs := func(l *Ledger, at int, later api.Errno) {
		t.Helper()
		next, free, open := l.Next(), l.Free(), l.Open()
		for _, mi := range []int{0, 1, most, -1, -2, least} {
			for _, size := range []int{1, 9000, 0, -1, least, 9001, most, 1 << 32, 1<<32 + 1} {
				for _, when := range []int{at, lastTime, at - 1, -1, least, lastTime + 1, most} {
					want := later
					switch {
					case mi < 0:
						want = api.ErrArg
					case size < 1 || size > 9000:
						want = api.ErrSize
					case when < at || when > lastTime:
						want = api.ErrSpan
					}
					if want == api.OK {
						continue
					}
					if seq, wrong := l.Send(mi, size, when); seq != 0 || wrong != want {
						t.Errorf("%d, %d, %d: %d, %d, not %d", mi, size, when, seq, wrong, want)
					}
				}
			}
		}
		looks(t, l, next, free, open...)
	}
	wrongs(made(t, 2, 9), 0, api.OK)
	l := made(t, 2, 9)
	sent(t, l, 3, 100, 50)
	wrongs(l, 50, api.OK)
	sent(t, l, 3, 100, 70)
	wrongs(l, 70, api.ErrFull)
	l = made(t, 1, end)
	wrongs(l, 0, api.ErrShut)
	l = made(t, 1, end-1)
	sent(t, l, 3, 100, 50)
	wrongs(l, 50, api.ErrFull) // ahead of ErrShut
	l.Expire(50, 0)
	wrongs(l, 50, api.ErrShut)
}

// The time that counts is that of the packet that was sent last, on its way or not; what was refused was not sent.
func TestTheTimeOfThePacketThatWasSentLast(t *testing.T) { // P11.2
	early := func(l *Ledger, at int) {
		t.Helper()
		if seq, wrong := l.Send(0, 1, at); seq != 0 || wrong != api.ErrSpan {
			t.Errorf("%d: %d, %d", at, seq, wrong)
		}
	}
	l := made(t, 2, 0)
	sent(t, l, 0, 1, 10)
	sent(t, l, 0, 1, 20)
	if seq, wrong := l.Send(0, 1, 90); seq != 0 || wrong != api.ErrFull {
		t.Errorf("%d, %d", seq, wrong)
	}
	if _, wrong := l.Take(1); wrong != api.OK {
		t.Errorf("%d", wrong)
	}
	early(l, 19)
	if gone := l.Expire(80, 70); len(gone) != 1 {
		t.Errorf("%v", gone)
	}
	early(l, 19)
	l.Send(-1, 1, 90)
	l.Send(0, 0, 90)
	looks(t, l, 2, 2)
	two := sent(t, l, 0, 1, 20)
	l.Take(two.Seq)
	sent(t, l, 0, 1, 21)
	early(l, 20)
	sent(t, l, 0, 1, lastTime)
	l.Expire(lastTime, 0)
	early(l, lastTime-1)
	looks(t, l, 5, 2)
	sent(t, l, 0, 1, lastTime)
}

func TestTheLastNumber(t *testing.T) { // P11.2, P11.3
	l := made(t, 3, end-2)
	two, one := sent(t, l, 0, 1, 0), sent(t, l, 0, 1, 0)
	looks(t, l, end, 1, two, one)
	if seq, wrong := l.Send(0, 1, 0); seq != 0 || wrong != api.ErrShut {
		t.Errorf("%d, %d", seq, wrong)
	}
	for _, seq := range []uint64{end, end - 3, 0, 1} {
		if p, wrong := l.Take(seq); p != (api.Pkt{}) || wrong != api.ErrNone {
			t.Errorf("%d: %v, %d", seq, p, wrong)
		}
	}
	if gone := l.Expire(0, 0); !slices.Equal(gone, []api.Pkt{two, one}) {
		t.Errorf("%v", gone)
	}
	looks(t, l, end, 3)
	if seq, wrong := l.Send(0, 1, 0); seq != 0 || wrong != api.ErrShut {
		t.Errorf("%d, %d", seq, wrong)
	}
	if p, wrong := l.Take(end - 1); p != (api.Pkt{}) || wrong != api.ErrTwice {
		t.Errorf("%v, %d", p, wrong)
	}
}

func TestTake(t *testing.T) { // P11.3
	l := made(t, 4, 100)
	refused := func(want api.Errno, seqs ...uint64) {
		t.Helper()
		for _, seq := range seqs {
			if p, wrong := l.Take(seq); p != (api.Pkt{}) || wrong != want {
				t.Errorf("%d: %v, %d, not %d", seq, p, wrong, want)
			}
		}
	}
	refused(api.ErrNone, 0, 99, 100, 101, end)
	a, b, c := sent(t, l, 0, 10, 1), sent(t, l, 1, 20, 2), sent(t, l, 1, 30, 3)
	refused(api.ErrNone, 0, 1, 99, 103, 104, 1<<63, end)
	for i, p := range []api.Pkt{b, c, a} { // in any order
		if got, wrong := l.Take(p.Seq); got != p || wrong != api.OK || l.Free() != 2+i {
			t.Errorf("%v, %d, free %d", got, wrong, l.Free())
		}
		refused(api.ErrTwice, p.Seq)
	}
	looks(t, l, 103, 4)
	refused(api.ErrTwice, 100, 101, 102)
	refused(api.ErrNone, 99, 103)
	d := sent(t, l, 1, 40, 3)
	refused(api.ErrNone, 99, 104)
	l.Expire(3, 0)
	refused(api.ErrTwice, d.Seq, 100)
}

// overdue tells, without bounds, whether a packet's Sent is at less timeout, or below.
func overdue(p api.Pkt, at, timeout int) bool {
	limit := new(big.Int).Sub(big.NewInt(int64(at)), big.NewInt(int64(timeout)))
	return big.NewInt(int64(p.Sent)).Cmp(limit) <= 0
}

// times are those at which something turns, and the ends of all ints.
func times() []int {
	l := []int{least, least + 1, most, most - 1, most - lastTime, least + lastTime}
	for _, at := range []int{0, 50, 51, 60, lastTime, 2 * lastTime, 1 << 62} {
		for _, beside := range []int{-1, 0, 1} {
			l = append(l, at+beside, -at-beside, most-at+min(beside, 0), least+at+max(beside, 0))
		}
	}
	return l
}

func TestExpireAtAnyTimes(t *testing.T) { // P11.3
	none, some, all := 0, 0, 0
	for _, at := range times() {
		for _, timeout := range times() {
			l := made(t, 6, 5)
			var open, gone []api.Pkt
			for _, when := range []int{0, 50, 50, 51, 60, lastTime} {
				if p := sent(t, l, 2, 9, when); overdue(p, at, timeout) {
					gone = append(gone, p)
				} else {
					open = append(open, p)
				}
			}
			if got := l.Expire(at, timeout); !slices.Equal(got, gone) {
				t.Fatalf("%d, %d: %v, not %v", at, timeout, got, gone)
			}
			looks(t, l, 11, 6-len(open), open...)
			switch len(gone) {
			case 0:
				none++
			case 6:
				all++
			default:
				some++
			}
		}
	}
	if none < 500 || some < 500 || all < 500 {
		t.Errorf("%d none, %d some, %d all", none, some, all)
	}
}

func TestExpireLeavesTheRest(t *testing.T) { // P11.3
	l := made(t, 5, 0)
	a, b, c := sent(t, l, 0, 1, 10), sent(t, l, 0, 1, 10), sent(t, l, 1, 1, 20)
	expire := func(at, timeout int, want ...api.Pkt) {
		t.Helper()
		if gone := l.Expire(at, timeout); !slices.Equal(gone, want) {
			t.Errorf("%d, %d: %v, not %v", at, timeout, gone, want)
		}
	}
	expire(19, 10)
	expire(20, 10, a, b)
	expire(20, 10)
	looks(t, l, 3, 4, c)
	d, e := sent(t, l, 1, 1, 20), sent(t, l, 1, 1, 30)
	l.Take(d.Seq)
	expire(15, 10) // back in time
	expire(31, 10, c)
	expire(31, 10)
	f := sent(t, l, 2, 1, 30)
	l.Take(e.Seq)
	looks(t, l, 6, 4, f)
	expire(most, 0, f)
	g := sent(t, l, 2, 1, 30)
	expire(29, 0)
	expire(29, -1, g)
	looks(t, l, 7, 5)
}

func TestManyExpireByRisingNumbers(t *testing.T) { // P11.1, P11.3
	l := made(t, mostRoom, 1000)
	var left []api.Pkt
	for n := range mostRoom {
		if p := sent(t, l, n/7, 1+n, n/3); n%5 != 0 {
			left = append(left, p)
		} else if _, wrong := l.Take(p.Seq); wrong != api.OK {
			t.Fatalf("%d", wrong)
		}
	}
	looks(t, l, 1000+mostRoom, mostRoom-len(left), left...)
	half := slices.IndexFunc(left, func(p api.Pkt) bool { return p.Sent > 700 })
	if gone := l.Expire(1000, 300); !slices.Equal(gone, left[:half]) {
		t.Errorf("%v", gone)
	}
	looks(t, l, 1000+mostRoom, mostRoom-len(left)+half, left[half:]...)
	if gone := l.Expire(lastTime, 0); !slices.Equal(gone, left[half:]) {
		t.Errorf("%v", gone)
	}
	looks(t, l, 1000+mostRoom, mostRoom)
}

func TestNilLedger(t *testing.T) { // P11.1, P11.2, P11.3
	var l *Ledger
	looks(t, l, 0, 0)
	for _, n := range []int{least, -1, 0, 1, most} {
		if seq, wrong := l.Send(n, n, n); seq != 0 || wrong != api.ErrNil {
			t.Errorf("%d: %d, %d", n, seq, wrong)
		}
		if p, wrong := l.Take(uint64(n)); p != (api.Pkt{}) || wrong != api.ErrNil {
			t.Errorf("%d: %v, %d", n, p, wrong)
		}
		if gone := l.Expire(n, -n); gone != nil {
			t.Errorf("%d: %v", n, gone)
		}
	}
}

// A ledger that was not made has no room.
func TestLedgerThatWasNotMade(t *testing.T) { // P11.2, P11.3
	l := new(Ledger)
	if seq, wrong := l.Send(0, 1, 1); seq != 0 || wrong != api.ErrFull {
		t.Errorf("%d, %d", seq, wrong)
	}
	if p, wrong := l.Take(0); p != (api.Pkt{}) || wrong != api.ErrNone {
		t.Errorf("%v, %d", p, wrong)
	}
	if gone := l.Expire(most, least); gone != nil {
		t.Errorf("%v", gone)
	}
	looks(t, l, 0, 0)
}

func TestLedgersOfTheirOwn(t *testing.T) { // P11.1, P11.2, P11.3
	l, other := made(t, 2, 5), made(t, 3, 5)
	five, fifth := sent(t, l, 0, 1, 9), sent(t, other, 4, 2, 3)
	six := sent(t, l, 0, 1, 9)
	looks(t, l, 7, 0, five, six)
	looks(t, other, 6, 2, fifth)
	if p, wrong := other.Take(6); p != (api.Pkt{}) || wrong != api.ErrNone {
		t.Errorf("%v, %d", p, wrong)
	}
	other.Expire(9, 0)
	looks(t, l, 7, 0, five, six)
	looks(t, other, 6, 3)
}

// What came out is not changed by what comes later.
func TestListsStayAsTheyAre(t *testing.T) { // P11.1, P11.3
	l := made(t, 4, 0)
	var all []api.Pkt
	for n := range 4 {
		all = append(all, sent(t, l, n, 1, n))
	}
	open, gone := l.Open(), l.Expire(1, 0)
	again := l.Open()
	for n := range 2 {
		sent(t, l, 9, 9, 10+n)
	}
	l.Expire(20, 0)
	if !slices.Equal(open, all) || !slices.Equal(gone, all[:2]) || !slices.Equal(again, all[2:]) {
		t.Errorf("%v, %v, %v", open, gone, again)
	}
}

// random makes the same numbers at each run.
type random uint64

func (r *random) below(n int) int {
	*r = *r*6364136223846793005 + 1442695040888963407
	return int(uint64(*r)>>33) % n
}

// plain is a ledger word for word: a list of all packets that were sent, with what became of them.
type plain struct {
	room  int
	first uint64
	all   []api.Pkt
	gone  []bool
}

func (x *plain) open() []api.Pkt {
	var l []api.Pkt
	for i, p := range x.all {
		if !x.gone[i] {
			l = append(l, p)
		}
	}
	return l
}

func (x *plain) send(mi, size, at int) (uint64, api.Errno) {
	last := 0
	if len(x.all) > 0 {
		last = x.all[len(x.all)-1].Sent
	}
	seq := x.first + uint64(len(x.all))
	switch {
	case mi < 0:
		return 0, api.ErrArg
	case size < 1 || size > 9000:
		return 0, api.ErrSize
	case at < 0 || at > lastTime || at < last:
		return 0, api.ErrSpan
	case len(x.open()) == x.room:
		return 0, api.ErrFull
	case seq == end:
		return 0, api.ErrShut
	}
	x.all, x.gone = append(x.all, api.Pkt{Seq: seq, Mi: mi, Size: size, Sent: at}), append(x.gone, false)
	return seq, api.OK
}

func (x *plain) take(seq uint64) (api.Pkt, api.Errno) {
	for i, p := range x.all {
		if p.Seq == seq && x.gone[i] {
			return api.Pkt{}, api.ErrTwice
		} else if p.Seq == seq {
			x.gone[i] = true
			return p, api.OK
		}
	}
	return api.Pkt{}, api.ErrNone
}

func (x *plain) expire(at, timeout int) []api.Pkt {
	var l []api.Pkt
	for _, p := range x.open() {
		if overdue(p, at, timeout) {
			x.take(p.Seq)
			l = append(l, p)
		}
	}
	return l
}

// said is what one call answered.
type said struct {
	seq   uint64
	p     api.Pkt
	l     []api.Pkt
	wrong api.Errno
}

// step does one call, of any kind, to both.
func (r *random) step(l *Ledger, x *plain, now int) (got, want said) {
	switch r.below(8) {
	case 0, 1, 2, 3:
		mi, size, at := r.below(20)-1, []int{1, 2, 1500, 9000, 0, 9001, 8999, 40}[r.below(8)], now-r.below(3)
		got.seq, got.wrong = l.Send(mi, size, at)
		want.seq, want.wrong = x.send(mi, size, at)
	case 4, 5, 6:
		seq := x.first + uint64(len(x.all)) - uint64(r.below(2*x.room+2))
		got.p, got.wrong = l.Take(seq)
		want.p, want.wrong = x.take(seq)
	default:
		at, timeout := now+r.below(9)-4, r.below(40)-2
		got.l, want.l = l.Expire(at, timeout), x.expire(at, timeout)
	}
	return got, want
}

func same(a, b said) bool {
	return a.seq == b.seq && a.p == b.p && slices.Equal(a.l, b.l) && a.wrong == b.wrong
}

func TestAnyCallsInAnyOrder(t *testing.T) { // P11.1, P11.2, P11.3
	r := random(1)
	seen := map[api.Errno]int{}
	takes, expiries := 0, 0
	for range 400 {
		room, first := 1+r.below(9), uint64(r.below(50))
		switch r.below(4) {
		case 0:
			first = end - uint64(r.below(30))
		case 1:
			first += 1<<63 - 40 // across the greatest int
		}
		l, x := made(t, room, first), &plain{room: room, first: first}
		now := 0
		for range 120 {
			now += r.below(4)
			got, want := r.step(l, x, now)
			if !same(got, want) {
				t.Fatalf("room %d, from %d on: %v, not %v", room, first, got, want)
			}
			looks(t, l, first+uint64(len(x.all)), room-len(x.open()), x.open()...)
			seen[got.wrong]++
			expiries += len(got.l)
			if got.p != (api.Pkt{}) {
				takes++
			}
		}
	}
	for _, wrong := range []api.Errno{api.OK, api.ErrArg, api.ErrSize, api.ErrSpan, api.ErrFull, api.ErrNone, api.ErrTwice, api.ErrShut} {
		if seen[wrong] < 50 {
			t.Errorf("error %d: %d", wrong, seen[wrong])
		}
	}
	if takes < 1000 || expiries < 1000 {
		t.Errorf("%d taken, %d expired", takes, expiries)
	}
}

func TestEachPacketIsGoneOnce(t *testing.T) { // P11.4
	r := random(2)
	taken, expired := 0, 0
	for range 200 {
		room := 1 + r.below(40)
		l := made(t, room, 1000)
		gone := map[uint64]int{}
		sendings, now := 0, 0
		for range 400 {
			now += r.below(3)
			if _, wrong := l.Send(0, 1, now); wrong == api.OK {
				sendings++
			}
			if p, wrong := l.Take(1000 + uint64(r.below(2*sendings+2))); wrong == api.OK {
				gone[p.Seq]++
				taken++
			}
			for _, p := range l.Expire(now, r.below(200)) {
				gone[p.Seq]++
				expired++
			}
		}
		for _, p := range l.Open() { // what is left is gone in the end
			if _, wrong := l.Take(p.Seq); wrong != api.OK {
				t.Fatalf("%v: %d", p, wrong)
			}
			gone[p.Seq]++
		}
		looks(t, l, 1000+uint64(sendings), room)
		for n := range sendings {
			if gone[1000+uint64(n)] != 1 {
				t.Fatalf("%d of %d: %d times", n, sendings, gone[1000+uint64(n)])
			}
		}
		if len(gone) != sendings {
			t.Fatalf("%d of %d", len(gone), sendings)
		}
	}
	if taken < 1000 || expired < 1000 {
		t.Errorf("%d taken, %d expired", taken, expired)
	}
}

func TestAFullLedger(t *testing.T) { // P11.4
	for _, room := range []int{1, 2, 3, 64, mostRoom} {
		l := made(t, room, 0)
		for n := range room {
			sent(t, l, 0, 1, n)
		}
		refuses := func(at int) {
			t.Helper()
			next, open := l.Next(), l.Open()
			for range 3 {
				if seq, wrong := l.Send(1, 1, at); seq != 0 || wrong != api.ErrFull {
					t.Fatalf("room %d: %d, %d", room, seq, wrong)
				}
			}
			looks(t, l, next, 0, open...)
		}
		refuses(room)
		if _, wrong := l.Take(uint64(room - 1)); wrong != api.OK {
			t.Fatalf("%d", wrong)
		}
		sent(t, l, 1, 1, room)
		refuses(room)
		oldest := l.Open()[0]
		if gone := l.Expire(oldest.Sent+7, 7); !slices.Equal(gone, []api.Pkt{oldest}) {
			t.Fatalf("room %d: %v", room, gone)
		}
		sent(t, l, 1, 1, room+7)
		refuses(room + 7)
	}
}
