package queue

import (
	"math"
	"math/big"
	"slices"
	"testing"

	"pacemaker/api"
)

const (
	million  = 1000000
	lastTime = 1099511627776
	mostRoom = 1073741824
	mostRate = 1000 * million
	most     = math.MaxInt
	least    = math.MinInt
)

// none is no queue, as it comes with an error.
var none = api.Queue{}

// of is the queue of a time that has so much work.
func of(at, work int) api.Queue { return api.Queue{At: at, Work: work} }

// load is a packet of so many bytes that comes at a time.
func load(at, size int) api.Load { return api.Load{At: at, Size: size} }

// isTimeOf and isSizeOf are what chapter 9 calls a time and a size.
func isTimeOf(at int) bool { return at >= 0 && at <= 1099511627776 }

func isSizeOf(size int) bool { return size >= 1 && size <= 9000 }

// isRoomOf and isRateOf are what the chapter calls a room and a rate.
func isRoomOf(room int) bool { return room >= 1 && room <= 1073741824 }

func isRateOf(rate int) bool { return rate >= 1 && rate <= 1000000000 }

// isOf is what the chapter calls right, word for word.
func isOf(room int, q api.Queue) bool {
	return isRoomOf(room) && isTimeOf(q.At) && q.Work >= 0 && q.Work <= room*1000000
}

func bigOf(n int) *big.Int { return big.NewInt(int64(n)) }

func product(a, b int) *big.Int { return new(big.Int).Mul(bigOf(a), bigOf(b)) }

// drainOf is P28.1 word for word.
func drainOf(room int, q api.Queue, rate, at int) (api.Queue, api.Errno) {
	if !isOf(room, q) {
		return none, api.ErrArg
	}
	if !isRateOf(rate) {
		return none, api.ErrRate
	}
	if !isTimeOf(at) || at < q.At {
		return none, api.ErrSpan
	}
	rest := bigOf(q.Work)
	rest.Sub(rest, product(rate, at-q.At))
	if rest.Sign() < 0 {
		rest = bigOf(0)
	}
	return of(at, int(rest.Int64())), api.OK
}

// arriveOf is P28.2 word for word.
func arriveOf(room int, q api.Queue, rate int, x api.Load) (int, api.Queue, api.Errno) {
	drained, wrong := drainOf(room, q, rate, x.At)
	if wrong != api.OK {
		return 0, none, wrong
	}
	if !isSizeOf(x.Size) {
		return 0, none, api.ErrSize
	}
	work := bigOf(drained.Work)
	work.Add(work, product(x.Size, 1000000))
	if work.Cmp(product(room, 1000000)) > 0 {
		return 0, none, api.ErrFull
	}
	drained.Work = int(work.Int64())
	span, rest := new(big.Int).QuoRem(work, bigOf(rate), new(big.Int))
	if rest.Sign() > 0 {
		span.Add(span, bigOf(1))
	}
	return drained.At + int(span.Int64()), drained, api.OK
}

// rowOf is P28.3 word for word.
func rowOf(room, rate int, l []api.Load) ([]api.Fate, api.Queue) {
	if !isRoomOf(room) {
		return nil, none
	}
	fates := make([]api.Fate, len(l))
	var q api.Queue
	for i, x := range l {
		leaves, then, wrong := arriveOf(room, q, rate, x)
		if wrong != api.OK {
			fates[i].Lost = true
			continue
		}
		fates[i].Leaves, q = leaves, then
	}
	return fates, q
}

// edges are 0, the ends of all kinds, what is beside them, and some others.
func edges() []int {
	l := []int{least, least + 1, most - 1, most}
	for _, n := range []int{0, 3, 7, 1500, 9000, million, 1 << 20, 1500 * million, 1000 * million, 1 << 30, 9000 * million, lastTime, million << 30, 1 << 58, 1 << 62} {
		for beside := -1; beside <= 1; beside++ {
			l = append(l, n+beside, -n+beside)
		}
	}
	slices.Sort(l)
	return slices.Compact(l)
}

// rooms are both ends, some between them, and what is beyond.
func rooms() []int {
	return []int{least, -million, -1, 0, 1, 2, 3000, 8999, 9000, 9001, 1<<30 - 1, 1 << 30, 1<<30 + 1, 1 << 44, most / million, most / million * 2, 1 << 62, most}
}

// rates are both ends, some between them, and what is beyond.
func rates() []int {
	return []int{least, -1, 0, 1, 3, million, 1 << 23, 1 << 25, mostRate - 1, mostRate, mostRate + 1, most}
}

// queues are ones that are right by a room, at the ends of all that they have, and some that are not.
func queues(room int) []api.Queue {
	var l []api.Queue
	for _, at := range []int{least, -1, 0, 1, 1500, lastTime - 1, lastTime, lastTime + 1, most} {
		for _, work := range []int{least, -1, 0, 1, million - 1, million, room*million/2 + 1, room*million - 1, room * million, room*million + 1, most} {
			l = append(l, of(at, work))
		}
	}
	return l
}

// random makes the same numbers at each run.
type random uint64

func (r *random) below(n int) int {
	*r = *r*6364136223846793005 + 1442695040888963407
	return int(uint64(*r)>>33) % n
}

// size is any int that is not below 0, small or great.
func (r *random) size() int {
	return (r.below(1<<31)<<32 | r.below(1<<31)<<1 | r.below(2)) >> r.below(63)
}

// any is any int, small or great, of both signs.
func (r *random) any() int {
	n := r.size()
	if r.below(2) == 0 {
		return ^n
	}
	return n
}

// upTo is one from least to greatest, small or great, or now and then any int.
func (r *random) upTo(least, greatest int) int {
	if r.below(12) == 0 {
		return r.any()
	}
	return least + r.size()%(greatest-least+1)
}

func (r *random) room() int { return r.upTo(1, mostRoom) }

func (r *random) rate() int { return r.upTo(1, mostRate) }

func (r *random) time() int { return r.upTo(0, lastTime) }

func (r *random) packet() int { return r.upTo(1, 9000) }

// queue is one that is right by a room, or wrong in any way.
func (r *random) queue(room int) api.Queue {
	if !isRoomOf(room) {
		room = 1
	}
	return of(r.time(), r.upTo(0, room*million))
}

// loads are packets that come one behind the other, by rights, with spans in between that a rate needs for some of them; wild ones come at any times, too, and are of any sizes.
func (r *random) loads(rate, many int, wild bool) []api.Load {
	l := make([]api.Load, many)
	at := r.size() % million
	for i := range l {
		size := 1 + r.size()%9000
		if r.below(3) == 0 {
			at += r.size() % (2*size*million/rate + 2)
		}
		l[i] = load(at, size)
		if wild && r.below(8) == 0 {
			l[i] = load(r.upTo(max(at-10, 0), at), r.packet())
		}
	}
	return l
}

func TestTheChaptersExamples(t *testing.T) { // P28.3
	l := []api.Load{load(0, 1500), load(0, 1500), load(1, 2), load(1000, 1000)}
	fates, q := Row(3000, 1000000, l)
	if want := []api.Fate{{Leaves: 1500}, {Leaves: 3000}, {Lost: true}, {Leaves: 4000}}; !slices.Equal(fates, want) || q != of(1000, 3000*million) {
		t.Errorf("%+v, %+v", fates, q)
	}
}

func TestIs(t *testing.T) { // P28.1
	for _, s := range []struct {
		room int
		q    api.Queue
		want bool
	}{
		{1, of(0, 0), true},
		{1, of(0, 1), true},
		{1, of(0, million), true},
		{1, of(0, million+1), false},
		{1, of(0, -1), false},
		{1, of(0, least), false},
		{1, of(0, most), false},
		{2, of(0, million+1), true}, // of another room it is
		{2, of(0, 2*million), true},
		{2, of(0, 2*million+1), false},
		{3000, of(5, 3000*million), true},
		{2999, of(5, 3000*million), false},
		{1, of(lastTime, 0), true},
		{1, of(lastTime+1, 0), false},
		{1, of(-1, 0), false},
		{1, of(least, 0), false},
		{1, of(most, 0), false},
		{0, of(0, 0), false},
		{-1, of(0, 0), false},
		{-1, of(0, -1), false},
		{least, of(0, 0), false},
		{1 << 30, of(lastTime, million<<30), true},
		{1 << 30, of(0, million<<30+1), false},
		{1<<30 + 1, of(0, 0), false},
		{1<<30 + 1, of(0, million<<30), false},
		{1 << 44, of(0, 0), false},
		{1 << 58, of(0, 0), false},
		{most, of(0, 0), false},
	} {
		if Is(s.room, s.q) != s.want {
			t.Errorf("%d, %+v: not %t", s.room, s.q, s.want)
		}
	}
}

func TestIsWordForWord(t *testing.T) { // P28.1
	for _, room := range rooms() {
		for _, of := range rooms() {
			for _, q := range queues(of) {
				if Is(room, q) != isOf(room, q) {
					t.Fatalf("%d, %+v: not %t", room, q, isOf(room, q))
				}
			}
		}
	}
	r := random(28)
	for range 50000 {
		room := r.room()
		if q := r.queue(room); Is(room, q) != isOf(room, q) {
			t.Fatalf("%d, %+v: not %t", room, q, isOf(room, q))
		}
	}
}

func TestDrain(t *testing.T) { // P28.1
	for _, s := range []struct {
		room     int
		q        api.Queue
		rate, at int
		want     api.Queue
		wrong    api.Errno
	}{
		{3000, of(0, 3000*million), 1000000, 1500, of(1500, 1500*million), api.OK},
		{3000, of(0, 3000*million), 1000000, 2999, of(2999, million), api.OK},
		{3000, of(0, 3000*million), 1000000, 3000, of(3000, 0), api.OK},
		{3000, of(0, 3000*million), 1000000, 3001, of(3001, 0), api.OK}, // not less than nothing
		{3000, of(5, 19), 3, 9, of(9, 7), api.OK},
		{3000, of(5, 12), 3, 9, of(9, 0), api.OK},
		{3000, of(5, 11), 3, 9, of(9, 0), api.OK},
		{3000, of(5, 13), 3, 9, of(9, 1), api.OK},
		{3000, of(5, 7), 3, 5, of(5, 7), api.OK}, // no span, no less
		{3000, of(5, 7), 1000000000, 5, of(5, 7), api.OK},
		{3000, of(5, 0), 3, 9, of(9, 0), api.OK},
		{3000, of(5, 0), 3, 5, of(5, 0), api.OK},
		{1, of(0, million), 1, million, of(million, 0), api.OK},
		{1, of(0, million), 1, million - 1, of(million-1, 1), api.OK},
		{1, of(0, million), 1000000000, 1, of(1, 0), api.OK},
		{1 << 30, of(0, million<<30), 1, lastTime, of(lastTime, 1073741824000000-lastTime), api.OK},
		{1 << 30, of(0, million<<30), 976, lastTime, of(lastTime, 618475290624), api.OK},
		{1 << 30, of(0, million<<30), 977, lastTime, of(lastTime, 0), api.OK},
		{1 << 30, of(0, million<<30), 1000000000, 1073741, of(1073741, 824*million), api.OK},
		{1 << 30, of(0, million<<30), 1000000000, 1073742, of(1073742, 0), api.OK},
		// What is taken may be more than an int holds, and, without what it can't hold, be nothing, or below 0.
		{3000, of(0, 3000*million), 1000000000, lastTime, of(lastTime, 0), api.OK},
		{1 << 30, of(0, 5), 1 << 24, 1 << 40, of(1<<40, 0), api.OK},
		{1 << 30, of(0, 5), 1 << 25, 1 << 39, of(1<<39, 0), api.OK},
		{1 << 30, of(0, million<<30), 1 << 23, 1 << 40, of(1<<40, 0), api.OK},
		{1, of(lastTime, 1), 1, lastTime, of(lastTime, 1), api.OK},
		{3000, of(5, 7), 0, 9, none, api.ErrRate},
		{3000, of(5, 7), -1, 9, none, api.ErrRate},
		{3000, of(5, 7), least, 9, none, api.ErrRate},
		{3000, of(5, 7), 1000000001, 9, none, api.ErrRate},
		{3000, of(5, 7), most, 9, none, api.ErrRate},
		{3000, of(5, 7), 3, 4, none, api.ErrSpan},
		{3000, of(5, 7), 3, -1, none, api.ErrSpan},
		{3000, of(5, 7), 3, least, none, api.ErrSpan},
		{3000, of(5, 7), 3, lastTime + 1, none, api.ErrSpan},
		{3000, of(5, 7), 3, most, none, api.ErrSpan},
		{3000, of(lastTime, 7), 3, lastTime - 1, none, api.ErrSpan},
		{3000, of(0, 7), 3, -1, none, api.ErrSpan},
		{3000, of(5, -1), 3, 9, none, api.ErrArg},
		{3000, of(-1, 0), 3, 9, none, api.ErrArg},
		{3000, of(lastTime+1, 0), 3, lastTime + 1, none, api.ErrArg},
		{3000, of(5, 3000*million+1), 3, 9, none, api.ErrArg},
		{2999, of(5, 3000*million), 3, 9, none, api.ErrArg},
		{0, of(5, 0), 3, 9, none, api.ErrArg},
		{-1, of(5, 0), 3, 9, none, api.ErrArg},
		{1<<30 + 1, of(5, 0), 3, 9, none, api.ErrArg},
		{most, of(5, 0), 3, 9, none, api.ErrArg},
		// Of several the one that is named first counts.
		{3000, of(5, -1), 0, 4, none, api.ErrArg},
		{3000, of(5, -1), 3, 4, none, api.ErrArg},
		{3000, of(-2, 0), 0, -3, none, api.ErrArg},
		{0, of(5, 0), 0, 9, none, api.ErrArg},
		{3000, of(5, 7), 0, 4, none, api.ErrRate},
		{3000, of(5, 7), 1000000001, lastTime + 1, none, api.ErrRate},
	} {
		if q, wrong := Drain(s.room, s.q, s.rate, s.at); q != s.want || wrong != s.wrong {
			t.Errorf("%+v: %+v, %d", s, q, wrong)
		}
	}
}

// codes counts how often each error, or none, was met.
type codes map[api.Errno]int

// met fails, if one of some codes was not met so often.
func (c codes) met(t *testing.T, often int, all ...api.Errno) {
	t.Helper()
	for _, code := range all {
		if c[code] < often {
			t.Errorf("%d was met %d times", code, c[code])
		}
	}
	if len(c) != len(all) {
		t.Errorf("%v", c)
	}
}

// drainedAsAsked holds a Drain against P28.1.
func drainedAsAsked(t *testing.T, met codes, room int, q api.Queue, rate, at int) {
	t.Helper()
	got, wrong := Drain(room, q, rate, at)
	if want, code := drainOf(room, q, rate, at); got != want || wrong != code {
		t.Fatalf("%d, %+v, %d, %d: %+v, %d, not %+v, %d", room, q, rate, at, got, wrong, want, code)
	}
	if wrong == api.OK && !Is(room, got) {
		t.Fatalf("%d, %+v, %d, %d: %+v is not right", room, q, rate, at, got)
	}
	met[wrong]++
}

func TestDrainWordForWord(t *testing.T) { // P28.1
	met := codes{}
	times := []int{least, -1, 0, 1, 2, 1499, 1500, million, 1 << 39, lastTime - 1, lastTime, lastTime + 1, most}
	for _, room := range rooms() {
		for _, q := range queues(room) {
			for _, rate := range rates() {
				for _, at := range times {
					drainedAsAsked(t, met, room, q, rate, at)
				}
			}
		}
	}
	r := random(2)
	for range 50000 {
		room := r.room()
		drainedAsAsked(t, met, room, r.queue(room), r.rate(), r.time())
	}
	met.met(t, 1000, api.OK, api.ErrArg, api.ErrRate, api.ErrSpan)
}

func TestDrainNearTheEnd(t *testing.T) { // P28.1
	r := random(3)
	met := codes{}
	for range 20000 {
		room, rate := 1+r.size()%mostRoom, 1+r.size()%mostRate
		// So long, that all is taken just so, or some microseconds less, or more.
		q := of(r.below(1000), r.size()%(room*million+1))
		span := min(max(q.Work/rate+r.below(5)-2, 0), lastTime-1000)
		drainedAsAsked(t, met, room, q, rate, q.At+span)
		// Works that are taken in whole microseconds, and what is beside them.
		span = r.size() % (room*million/rate + 1) % (lastTime - 1000)
		q.Work = min(max(span*rate+r.below(3)-1, 0), room*million)
		drainedAsAsked(t, met, room, q, rate, q.At+span)
	}
	met.met(t, 40000, api.OK)
}

func TestArrive(t *testing.T) { // P28.2
	for _, s := range []struct {
		room   int
		q      api.Queue
		rate   int
		x      api.Load
		leaves int
		want   api.Queue
		wrong  api.Errno
	}{
		{3000, of(0, 0), 1000000, load(0, 1500), 1500, of(0, 1500*million), api.OK},
		{3000, of(0, 1500*million), 1000000, load(0, 1500), 3000, of(0, 3000*million), api.OK},
		{3000, of(0, 3000*million), 1000000, load(1, 2), 0, none, api.ErrFull},
		{3000, of(0, 3000*million), 1000000, load(1, 1), 3001, of(1, 3000*million), api.OK},
		{3000, of(0, 3000*million), 1000000, load(0, 1), 0, none, api.ErrFull},
		{3000, of(0, 3000*million), 999999, load(1, 1), 0, none, api.ErrFull}, // one part too much
		{3000, of(0, 3000*million-1), 999999, load(1, 1), 3002, of(1, 3000*million), api.OK},
		{3000, of(0, 3000*million), 1000000, load(1000, 1000), 4000, of(1000, 3000*million), api.OK},
		{3000, of(0, 3000*million), 1000000, load(9000, 1000), 10000, of(9000, 1000*million), api.OK},
		{3000, of(0, 0), 1000000, load(0, 3000), 3000, of(0, 3000*million), api.OK},
		{3000, of(0, 0), 1000000, load(0, 3001), 0, none, api.ErrFull}, // more than a room
		{3000, of(0, 0), 1000000, load(0, 9000), 0, none, api.ErrFull},
		{9000, of(0, 0), 1000000, load(0, 9000), 9000, of(0, 9000*million), api.OK},
		{1, of(0, 0), 1, load(0, 1), million, of(0, million), api.OK},
		{1, of(0, 1), 1, load(0, 1), 0, none, api.ErrFull},
		{1, of(0, 1), 1, load(1, 1), million + 1, of(1, million), api.OK},
		// There are no parts of a microsecond, and what is through leaves not earlier.
		{9, of(0, 0), 7, load(0, 1), 142858, of(0, million), api.OK},
		{9, of(0, 2), 7, load(0, 1), 142858, of(0, million+2), api.OK},
		{9, of(0, 6), 7, load(0, 1), 142858, of(0, million+6), api.OK},
		{9, of(0, 7), 7, load(0, 1), 142859, of(0, million+7), api.OK},
		{9, of(0, 0), 1000000000, load(0, 1), 1, of(0, million), api.OK},
		{9, of(0, 999*million), 1000000000, load(0, 1), 0, none, api.ErrArg},
		{1001, of(0, 999*million), 1000000000, load(0, 1), 1, of(0, 1000*million), api.OK},
		{1001, of(0, 999*million+1), 1000000000, load(0, 1), 2, of(0, 1000*million+1), api.OK},
		{1001, of(7, 1000*million), 1000000000, load(7, 1), 9, of(7, 1001*million), api.OK},
		{1001, of(7, 1000*million), 1000000000, load(8, 1), 9, of(8, million), api.OK},
		{1001, of(7, 1000*million+1), 1000000000, load(8, 1), 9, of(8, million+1), api.OK},
		{1 << 30, of(0, (1<<30-1)*million), 1, load(0, 1), 1073741824 * million, of(0, million<<30), api.OK},
		{1 << 30, of(0, (1<<30-1)*million+1), 1, load(0, 1), 0, none, api.ErrFull},
		{1 << 30, of(0, million<<30), 1000000000, load(lastTime, 9000), lastTime + 9, of(lastTime, 9000*million), api.OK},
		{1 << 30, of(0, 9000*million), 1 << 24, load(lastTime, 1), lastTime + 1, of(lastTime, million), api.OK},
		{1 << 30, of(lastTime, (1<<30-9000)*million), 1, load(lastTime, 9000), lastTime + 1073741824*million, of(lastTime, million<<30), api.OK}, // leaves at no time
		{3000, of(5, 7), 3, load(9, 0), 0, none, api.ErrSize},
		{3000, of(5, 7), 3, load(9, -1), 0, none, api.ErrSize},
		{3000, of(5, 7), 3, load(9, least), 0, none, api.ErrSize},
		{3000, of(5, 7), 3, load(9, most), 0, none, api.ErrSize},
		{9001, of(5, 0), 3, load(9, 9001), 0, none, api.ErrSize},
		{1 << 30, of(5, 0), 3, load(9, 1<<58), 0, none, api.ErrSize}, // whose millionths, in an int, are 0
		{3000, of(5, 7), 0, load(9, 1), 0, none, api.ErrRate},
		{3000, of(5, 7), -1, load(9, 1), 0, none, api.ErrRate},
		{3000, of(5, 7), 1000000001, load(9, 1), 0, none, api.ErrRate},
		{3000, of(5, 7), 3, load(4, 1), 0, none, api.ErrSpan},
		{3000, of(5, 7), 3, load(-1, 1), 0, none, api.ErrSpan},
		{3000, of(5, 7), 3, load(lastTime+1, 1), 0, none, api.ErrSpan},
		{3000, of(5, 7), 3, load(most, 1), 0, none, api.ErrSpan},
		{3000, of(5, 7), 3, load(least, 1), 0, none, api.ErrSpan},
		{3000, of(5, 3000*million+1), 3, load(9, 1), 0, none, api.ErrArg},
		{3000, of(5, -1), 3, load(9, 1), 0, none, api.ErrArg},
		{3000, of(-1, 0), 3, load(9, 1), 0, none, api.ErrArg},
		{0, of(5, 0), 3, load(9, 1), 0, none, api.ErrArg},
		{1<<30 + 1, of(5, 0), 3, load(9, 1), 0, none, api.ErrArg},
		// Of several the one that is named first counts.
		{0, of(5, 0), 0, load(4, 0), 0, none, api.ErrArg},
		{3000, of(5, 7), 0, load(4, 0), 0, none, api.ErrRate},
		{3000, of(5, 7), 3, load(4, 0), 0, none, api.ErrSpan},
		{3000, of(5, 7), 3, load(4, 9001), 0, none, api.ErrSpan},
		{3000, of(5, 3000*million), 3, load(4, 3000), 0, none, api.ErrSpan},
		{3000, of(5, 3000*million), 3, load(5, 0), 0, none, api.ErrSize},
		{3000, of(5, 3000*million), 3, load(5, 9001), 0, none, api.ErrSize},
	} {
		if leaves, q, wrong := Arrive(s.room, s.q, s.rate, s.x); leaves != s.leaves || q != s.want || wrong != s.wrong {
			t.Errorf("%+v: %d, %+v, %d", s, leaves, q, wrong)
		}
	}
}

// arrivedAsAsked holds an Arrive against P28.2.
func arrivedAsAsked(t *testing.T, met codes, room int, q api.Queue, rate int, x api.Load) {
	t.Helper()
	leaves, got, wrong := Arrive(room, q, rate, x)
	if n, want, code := arriveOf(room, q, rate, x); leaves != n || got != want || wrong != code {
		t.Fatalf("%d, %+v, %d, %+v: %d, %+v, %d, not %d, %+v, %d", room, q, rate, x, leaves, got, wrong, n, want, code)
	}
	if wrong == api.OK && !Is(room, got) {
		t.Fatalf("%d, %+v, %d, %+v: %+v is not right", room, q, rate, x, got)
	}
	met[wrong]++
}

func TestArriveWordForWord(t *testing.T) { // P28.2
	met := codes{}
	times := []int{least, -1, 0, 1, 1500, million, lastTime - 1, lastTime, lastTime + 1, most}
	sizes := []int{least, -1, 0, 1, 2, 1500, 8999, 9000, 9001, 1 << 58, most}
	for _, room := range rooms() {
		for _, q := range queues(room) {
			for _, rate := range rates() {
				for _, at := range times {
					for _, size := range sizes {
						arrivedAsAsked(t, met, room, q, rate, load(at, size))
					}
				}
			}
		}
	}
	for _, at := range edges() {
		for _, size := range edges() {
			arrivedAsAsked(t, met, 9000, of(7, 4500*million), 1000, load(at, size))
		}
	}
	r := random(4)
	for range 50000 {
		room := r.room()
		arrivedAsAsked(t, met, room, r.queue(room), r.rate(), load(r.time(), r.packet()))
	}
	met.met(t, 1000, api.OK, api.ErrArg, api.ErrRate, api.ErrSpan, api.ErrSize, api.ErrFull)
}

func TestArriveNearTheRoom(t *testing.T) { // P28.2
	r := random(5)
	met := codes{}
	for range 30000 {
		room, rate, size := 1+r.size()%mostRoom, 1+r.size()%mostRate, 1+r.size()%9000
		// There is just so much room left, or nearly so, when the packet comes.
		span := r.below(1 << r.below(12))
		work := min(max((room-size)*million+rate*span+r.below(5)-2, 0), room*million)
		q := of(r.below(1000), work)
		arrivedAsAsked(t, met, room, q, rate, load(q.At+span, size))
	}
	met.met(t, 3000, api.OK, api.ErrFull)
}

func TestArriveAtWholeMicroseconds(t *testing.T) { // P28.2
	r := random(6)
	met := codes{}
	for range 20000 {
		rate, size := 1+r.size()%mostRate, 1+r.size()%9000
		// All of it needs whole microseconds, or a part more, or less.
		span := (size*million+rate-1)/rate + r.below(100)
		work := min(max(span*rate-size*million+r.below(3)-1, 0), (mostRoom-size)*million)
		arrivedAsAsked(t, met, mostRoom, of(11, work), rate, load(11, size))
	}
	met.met(t, 20000, api.OK)
}

func TestRow(t *testing.T) { // P28.3
	for i, s := range []struct {
		room, rate int
		l          []api.Load
		fates      []api.Fate
		q          api.Queue
	}{
		{3000, 1000000, []api.Load{load(0, 1500)}, []api.Fate{{Leaves: 1500}}, of(0, 1500*million)},
		{3000, 1000000, []api.Load{load(7, 1500), load(1507, 1500)}, []api.Fate{{Leaves: 1507}, {Leaves: 3007}}, of(1507, 1500*million)},
		// What has no room, and what is wrong, is lost, and leaves the queue as it is, of its own time, too.
		{3000, 1000000, []api.Load{load(0, 3000), load(0, 1), load(500, 500), load(500, 1)}, []api.Fate{{Leaves: 3000}, {Lost: true}, {Leaves: 3500}, {Lost: true}}, of(500, 3000*million)},
		{3000, 1000000, []api.Load{load(0, 3000), load(500, 501), load(499, 499)}, []api.Fate{{Leaves: 3000}, {Lost: true}, {Leaves: 3499}}, of(499, 3000*million)},
		{3000, 1000000, []api.Load{load(5, 1), load(4, 1), load(5, 1)}, []api.Fate{{Leaves: 6}, {Lost: true}, {Leaves: 7}}, of(5, 2*million)},
		{3000, 1000000, []api.Load{load(5, 1), load(9, 0), load(6, 1)}, []api.Fate{{Leaves: 6}, {Lost: true}, {Leaves: 7}}, of(6, million)},
		{3000, 1000000, []api.Load{load(-1, 1), load(0, 1), load(lastTime+1, 1), load(most, 1)}, []api.Fate{{Lost: true}, {Leaves: 1}, {Lost: true}, {Lost: true}}, of(0, million)},
		{3000, 1000000, []api.Load{load(lastTime, 1), load(lastTime, 1)}, []api.Fate{{Leaves: lastTime + 1}, {Leaves: lastTime + 2}}, of(lastTime, 2*million)},
		{9000, 1, []api.Load{load(0, 9001), load(0, 9000), load(0, -1), load(0, least), load(0, most)}, []api.Fate{{Lost: true}, {Leaves: 9000 * million}, {Lost: true}, {Lost: true}, {Lost: true}}, of(0, 9000*million)},
		{1, 1, []api.Load{load(0, 1), load(million-1, 1), load(million, 1), load(3*million, 1)}, []api.Fate{{Leaves: million}, {Lost: true}, {Leaves: 2 * million}, {Leaves: 4 * million}}, of(3*million, million)},
		{1, 1, []api.Load{load(0, 2)}, []api.Fate{{Lost: true}}, none},
		// At a great rate some leave at once.
		{9000, mostRate, []api.Load{load(0, 500), load(0, 500), load(0, 1), load(1, 999)}, []api.Fate{{Leaves: 1}, {Leaves: 1}, {Leaves: 2}, {Leaves: 2}}, of(1, 1000*million)},
		// There is nothing to tell.
		{3000, 1000000, nil, nil, none},
		{3000, 1000000, []api.Load{}, nil, none},
		{3000, 0, nil, nil, none},
		// No rate takes anything.
		{3000, 0, []api.Load{load(0, 1), load(5, 1)}, []api.Fate{{Lost: true}, {Lost: true}}, none},
		{3000, -1, []api.Load{load(0, 1)}, []api.Fate{{Lost: true}}, none},
		{3000, least, []api.Load{load(0, 1)}, []api.Fate{{Lost: true}}, none},
		{3000, mostRate + 1, []api.Load{load(0, 1), load(0, 1)}, []api.Fate{{Lost: true}, {Lost: true}}, none},
		{3000, most, []api.Load{load(0, 1)}, []api.Fate{{Lost: true}}, none},
		// A room that is none has no fates.
		{0, 1000000, []api.Load{load(0, 1), load(5, 1)}, nil, none},
		{-1, 1000000, []api.Load{load(0, 1)}, nil, none},
		{least, 1000000, []api.Load{load(0, 1)}, nil, none},
		{1<<30 + 1, 1000000, []api.Load{load(0, 1)}, nil, none},
		{most, 1000000, []api.Load{load(0, 1)}, nil, none},
		{0, 0, []api.Load{load(-1, 0)}, nil, none},
		{1 << 30, 1000000, []api.Load{load(0, 1)}, []api.Fate{{Leaves: 1}}, of(0, million)},
	} {
		if fates, q := Row(s.room, s.rate, s.l); !slices.Equal(fates, s.fates) || q != s.q {
			t.Errorf("%d: %+v, %+v", i, fates, q)
		}
	}
}

func TestTheGreatestRoomIsFilled(t *testing.T) { // P28.3
	const whole, rest = 119304, 5824 // packets of 9000, and what is left of the room behind them
	l := slices.Repeat([]api.Load{load(0, 9000)}, whole+1)
	l = append(l, load(0, rest+1), load(0, rest), load(0, 1), load(1, 1), load(million, 1))
	fates, q := Row(mostRoom, 1, l)
	if len(fates) != len(l) || q != of(million, mostRoom*million) {
		t.Fatalf("%d, %+v", len(fates), q)
	}
	for i, f := range fates[:whole] {
		if want := (api.Fate{Leaves: (i + 1) * 9000 * million}); f != want {
			t.Fatalf("%d: %+v, not %+v", i, f, want)
		}
	}
	lost := api.Fate{Lost: true}
	want := []api.Fate{lost, lost, {Leaves: mostRoom * million}, lost, lost, {Leaves: mostRoom*million + million}}
	if !slices.Equal(fates[whole:], want) {
		t.Errorf("%+v", fates[whole:])
	}
}

// rowAsAsked holds a Row against P28.3, and tells how many of it were lost.
func rowAsAsked(t *testing.T, room, rate int, l []api.Load) int {
	t.Helper()
	fates, q := Row(room, rate, l)
	if want, then := rowOf(room, rate, l); !slices.Equal(fates, want) || q != then {
		t.Fatalf("%d, %d, %+v: %+v, %+v, not %+v, %+v", room, rate, l, fates, q, want, then)
	}
	lost := 0
	for _, f := range fates {
		if f.Lost {
			lost++
		}
	}
	return lost
}

func TestRowWordForWord(t *testing.T) { // P28.3
	for _, room := range rooms() {
		for _, rate := range rates() {
			for _, at := range edges() {
				rowAsAsked(t, room, rate, []api.Load{load(at, 1), load(at, 8999), load(at, 9001), load(at+1, 1500)})
				rowAsAsked(t, room, rate, []api.Load{load(0, 1), load(0, at), load(at, 8999), load(1500, 9000)})
			}
		}
	}
	r := random(7)
	lost, all := 0, 0
	for range 5000 {
		room, rate := r.upTo(1, 1<<17), r.rate()
		l := r.loads(min(max(rate, 1), mostRate), r.below(60), true)
		all, lost = all+len(l), lost+rowAsAsked(t, room, rate, l)
	}
	if lost < all/10 || lost > all*9/10 {
		t.Errorf("%d of %d", lost, all)
	}
}

func TestRowTakesArrivalsOneByOne(t *testing.T) { // P28.3
	r := random(8)
	for range 2000 {
		room, rate := 1+r.size()%(1<<17), 1+r.size()%mostRate
		var q api.Queue
		l := r.loads(rate, 40, true)
		for i, x := range l {
			leaves, then, wrong := Arrive(room, q, rate, x)
			if wrong == api.OK {
				q = then
			}
			fates, behind := Row(room, rate, l[:i+1])
			if len(fates) != i+1 || fates[i] != (api.Fate{Leaves: leaves, Lost: wrong != api.OK}) || behind != q {
				t.Fatalf("%d, %d, %+v: %+v, %+v", room, rate, l[:i+1], fates, behind)
			}
		}
	}
}

// walk is a row of packets by a right room and rate, that came one behind the other, and which ones were not lost.
type walk struct {
	room, rate int
	l          []api.Load
	fates      []api.Fate
	q          api.Queue
	kept       []int
}

// walks are some of them, of small rooms and great ones, at small rates and great ones.
func walks(t *testing.T, seed, many int) []walk {
	t.Helper()
	r := random(seed)
	lost, kept := 0, 0
	var all []walk
	for range many {
		w := walk{room: 1 + r.size()%(1<<17), rate: 1 + r.size()%mostRate}
		w.l = r.loads(w.rate, 60, false)
		w.fates, w.q = Row(w.room, w.rate, w.l)
		for i, f := range w.fates {
			if !f.Lost {
				w.kept = append(w.kept, i)
			}
		}
		kept, lost = kept+len(w.kept), lost+len(w.l)-len(w.kept)
		all = append(all, w)
	}
	if kept < 10*many || lost < 10*many {
		t.Fatalf("%d were lost, and %d not", lost, kept)
	}
	return all
}

func TestFirstComeFirstServed(t *testing.T) { // P28.4
	for _, w := range walks(t, 9, 1000) {
		last := 0
		for _, i := range w.kept {
			if w.fates[i].Leaves < last || w.fates[i].Leaves <= w.l[i].At {
				t.Fatalf("%+v: %d at %d, behind %d", w, i, w.fates[i].Leaves, last)
			}
			last = w.fates[i].Leaves
		}
	}
}

// workOf is what P28.4 tells of the work at a time, by the packets that were not lost.
func workOf(w walk, kept []int, at int) *big.Int {
	work, came := bigOf(0), bigOf(0)
	for _, i := range slices.Backward(kept) {
		came.Add(came, product(w.l[i].Size, 1000000))
		rest := new(big.Int).Sub(came, product(w.rate, at-w.l[i].At))
		if rest.Cmp(work) > 0 {
			work = rest
		}
	}
	return work
}

func TestWorkIsWhatCameLessWhatTheRateTook(t *testing.T) { // P28.4
	r := random(10)
	for _, w := range walks(t, 10, 1000) {
		n := 0
		for i, x := range w.l {
			_, q := Row(w.room, w.rate, w.l[:i])
			// At the time of the next one, and some time ahead of it.
			for _, at := range []int{x.At, q.At + r.below(x.At-q.At+1)} {
				drained, wrong := Drain(w.room, q, w.rate, at)
				if want := workOf(w, w.kept[:n], at); wrong != api.OK || bigOf(drained.Work).Cmp(want) != 0 {
					t.Fatalf("%+v: ahead of %d, at %d: %+v, %d, not %d", w, i, at, drained, wrong, want)
				}
			}
			if n < len(w.kept) && w.kept[n] == i {
				n++
			}
		}
	}
}

func TestLostIsWhatHasNoRoom(t *testing.T) { // P28.4
	for _, w := range walks(t, 11, 1000) {
		n := 0
		for i, x := range w.l {
			work := workOf(w, w.kept[:n], x.At)
			work.Add(work, product(x.Size, 1000000))
			if full := work.Cmp(product(w.room, 1000000)) > 0; full != w.fates[i].Lost {
				t.Fatalf("%+v: %d: %d", w, i, work)
			}
			if !w.fates[i].Lost {
				n++
			}
		}
	}
}

func TestTwoStepsAreOne(t *testing.T) { // P28.4
	r := random(12)
	for range 20000 {
		room, rate := 1+r.size()%mostRoom, 1+r.size()%mostRate
		q := of(r.size()%lastTime, r.size()%(room*million+1))
		// As long as there is work, or any span.
		span := r.size() % (lastTime - q.At + 1)
		if r.below(2) == 0 {
			span = min(span, q.Work/rate)
		}
		once, wrong := Drain(room, q, rate, q.At+span)
		half, first := Drain(room, q, rate, q.At+r.size()%(span+1))
		twice, second := Drain(room, half, rate, q.At+span)
		if wrong != api.OK || first != api.OK || second != api.OK || twice != once {
			t.Fatalf("%d, %+v, %d, %d: %+v, not %+v", room, q, rate, span, twice, once)
		}
	}
}

func TestWaitsNoLongerThanAFullRoom(t *testing.T) { // P28.4
	for _, w := range walks(t, 13, 1000) {
		longest := (w.room*million + w.rate - 1) / w.rate
		for _, i := range w.kept {
			if w.fates[i].Leaves-w.l[i].At > longest {
				t.Fatalf("%+v: %d: %d", w, i, longest)
			}
		}
	}
	// The one that fills a room waits as long as that.
	r := random(13)
	for range 20000 {
		room, rate := 1+r.size()%mostRoom, 1+r.size()%mostRate
		size := 1 + r.size()%min(room, 9000)
		leaves, _, wrong := Arrive(room, of(3, (room-size)*million), rate, load(3, size))
		if wrong != api.OK || leaves-3 != (room*million+rate-1)/rate {
			t.Fatalf("%d, %d, %d: %d, %d", room, rate, size, leaves, wrong)
		}
	}
}

func TestNoMoreLeavesThanTheRateTakes(t *testing.T) { // P28.4
	for _, w := range walks(t, 14, 1000) {
		for n, i := range w.kept {
			came := bigOf(0)
			for _, j := range w.kept[n+1:] {
				came.Add(came, product(w.l[j].Size, 1000000))
				// Behind the leaving of one, up to that of another, and what was left of one microsecond.
				taken := product(w.rate, w.fates[j].Leaves-w.fates[i].Leaves)
				taken.Add(taken, bigOf(w.rate-1))
				if came.Cmp(taken) > 0 {
					t.Fatalf("%+v: from %d to %d: %d of %d", w, i, j, came, taken)
				}
			}
		}
	}
}

func TestLeavesAreThoseOfOneServer(t *testing.T) { // P28.2, P28.3, P28.4
	// Served one behind the other: each one begins when it comes, or when the one ahead of it is through, of which times as many parts of a microsecond are counted as the rate has bytes.
	for _, w := range walks(t, 15, 1000) {
		through := bigOf(0)
		for _, i := range w.kept {
			if came := product(w.l[i].At, w.rate); came.Cmp(through) > 0 {
				through = came
			}
			through.Add(through, product(w.l[i].Size, 1000000))
			whole, rest := new(big.Int).QuoRem(through, bigOf(w.rate), new(big.Int))
			if rest.Sign() > 0 {
				whole.Add(whole, bigOf(1))
			}
			if whole.Cmp(bigOf(w.fates[i].Leaves)) != 0 {
				t.Fatalf("%+v: %d: not %d", w, i, whole)
			}
		}
	}
}

func TestWhatIsHandedInStays(t *testing.T) { // P28.3
	r := random(16)
	for range 500 {
		room, rate := 1+r.size()%(1<<17), 1+r.size()%mostRate
		l := r.loads(rate, r.below(40), true)
		ahead := slices.Clone(l)
		first, q := Row(room, rate, l)
		kept := slices.Clone(first)
		second, then := Row(room, rate, l)
		for i := range second {
			second[i] = api.Fate{Leaves: -1, Lost: true}
		}
		_ = append(second, api.Fate{Leaves: -2})
		if !slices.Equal(l, ahead) || !slices.Equal(first, kept) || q != then {
			t.Fatalf("%d, %d, %+v: %+v, %+v", room, rate, ahead, first, kept)
		}
	}
}

func TestNothingElseCounts(t *testing.T) { // P28.1, P28.2, P28.3
	// All calls, forwards and backwards: what was asked in between changes no answer.
	type told struct {
		is            bool
		drained, then api.Queue
		leaves        int
		first, second api.Errno
		q             api.Queue
		last          api.Fate
	}
	ask := func(n int) told {
		r := random(n)
		room := r.room()
		q := r.queue(room)
		a := told{is: Is(room, q)}
		a.drained, a.first = Drain(room, q, r.rate(), r.time())
		a.leaves, a.then, a.second = Arrive(room, q, r.rate(), load(r.time(), r.packet()))
		var fates []api.Fate
		fates, a.q = Row(1+r.below(20000), mostRate, r.loads(mostRate, 30, true))
		a.last = fates[29]
		return a
	}
	var l []told
	for n := range 2000 {
		l = append(l, ask(n))
	}
	for n := range l {
		if n = len(l) - 1 - n; ask(n) != l[n] {
			t.Fatalf("%d: %+v, not %+v", n, ask(n), l[n])
		}
	}
}
