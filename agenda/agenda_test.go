package agenda

import (
	"cmp"
	"math"
	"slices"
	"testing"

	"pacemaker/api"
)

const (
	most  = math.MaxInt
	least = math.MinInt
	room  = 65536
)

// none is no event, as it comes with false.
var none = api.Event{}

// at is an event of a time, that is known by a number.
func at(time int, n uint64) api.Event { return api.Event{At: time, Seq: n} }

// made is an agenda that can be made.
func made(t *testing.T, many int) *Agenda {
	t.Helper()
	a, wrong := New(many)
	if a == nil || wrong != api.OK {
		t.Fatalf("%d: %v, %d", many, a, wrong)
	}
	return a
}

// of is an agenda of some events, with room for as many more as there are, and one.
func of(t *testing.T, l ...api.Event) *Agenda {
	t.Helper()
	a := made(t, 2*len(l)+1)
	puts(t, a, l...)
	return a
}

// puts puts events that can be put.
func puts(t *testing.T, a *Agenda, l ...api.Event) {
	t.Helper()
	for _, x := range l {
		if wrong := a.Put(x); wrong != api.OK {
			t.Fatalf("%+v: %d", x, wrong)
		}
	}
}

// looks fails, if an agenda does not tell of itself that it has just these events, in this order.
func looks(t *testing.T, a *Agenda, l ...api.Event) {
	t.Helper()
	if a.Len() != len(l) || !slices.Equal(a.All(), l) {
		t.Fatalf("%d: %v, not %v", a.Len(), a.All(), l)
	}
	want := append(slices.Clone(l), none)[0]
	if x, is := a.Peek(); x != want || is != (len(l) > 0) {
		t.Fatalf("%+v, %t, not %+v", x, is, want)
	}
}

// tells fails, if an agenda does not tell just these events, one after the other, up to a time.
func tells(t *testing.T, a *Agenda, till int, l ...api.Event) {
	t.Helper()
	for i, want := range l {
		if x, is := a.Next(till); x != want || !is {
			t.Fatalf("%d of those till %d: %+v, %t, not %+v", i, till, x, is, want)
		}
	}
	if x, is := a.Next(till); x != none || is {
		t.Fatalf("till %d: %+v, %t", till, x, is)
	}
}

// ordered are events in the order of their times, those of one time as they stand.
func ordered(l []api.Event) []api.Event {
	l = slices.Clone(l)
	slices.SortStableFunc(l, func(x, y api.Event) int { return cmp.Compare(x.At, y.At) })
	return l
}

// edges are 0, the ends of all kinds, and what is beside them, rising.
func edges() []int {
	return []int{least, least + 1, -1 << 32, -1<<31 - 1, -2, -1, 0, 1, 2, 1 << 31, 1<<32 - 1, 1 << 32, 1 << 39, 1<<40 + 1, most - 1, most}
}

// random makes the same numbers at each run.
type random uint64

func (r *random) below(n int) int {
	*r = *r*6364136223846793005 + 1442695040888963407
	return int(uint64(*r)>>33) % n
}

// time is one of a few times, or now and then any of many, or one of the edges.
func (r *random) time(few int) int {
	switch r.below(8) {
	case 0:
		return edges()[r.below(len(edges()))]
	case 1:
		return r.below(1<<31)<<r.below(33) - r.below(1<<31)<<r.below(33)
	}
	return r.below(few)
}

// event is any one.
func (r *random) event(few int) api.Event {
	return api.Event{At: r.time(few), Kind: r.below(4), Who: r.below(64), Seq: uint64(r.below(5))}
}

func (r *random) events(many, few int) []api.Event {
	l := make([]api.Event, many)
	for i := range l {
		l[i] = r.event(few)
	}
	return l
}

// plain is what P29.1 and P29.2 say, word for word: events as they were put.
type plain struct {
	most int
	l    []api.Event
}

func (p *plain) put(x api.Event) api.Errno {
	if len(p.l) == p.most {
		return api.ErrFull
	}
	p.l = append(p.l, x)
	return api.OK
}

// first tells the place of that which was put first of those with the least At, or -1.
func (p *plain) first() int {
	first := -1
	for i, x := range p.l {
		if first == -1 || x.At < p.l[first].At {
			first = i
		}
	}
	return first
}

func (p *plain) peek() (api.Event, bool) {
	if len(p.l) == 0 {
		return none, false
	}
	return p.l[p.first()], true
}

func (p *plain) next(till int) (api.Event, bool) {
	i := p.first()
	if i == -1 || p.l[i].At > till {
		return none, false
	}
	x := p.l[i]
	p.l = slices.Delete(p.l, i, i+1)
	return x, true
}

func (p *plain) all() []api.Event {
	rest := plain{l: slices.Clone(p.l)}
	var l []api.Event
	for x, is := rest.next(most); is; x, is = rest.next(most) {
		l = append(l, x)
	}
	return l
}

func TestTheChaptersExample(t *testing.T) { // P29.1, P29.2
	one, three, two := api.Event{At: 5, Who: 1}, api.Event{At: 3}, api.Event{At: 5, Who: 2}
	a := made(t, 3)
	puts(t, a, one, three, two)
	looks(t, a, three, one, two)
	for _, s := range []struct {
		till int
		want api.Event
		is   bool
	}{{4, three, true}, {4, none, false}, {5, one, true}} {
		if x, is := a.Next(s.till); x != s.want || is != s.is {
			t.Errorf("till %d: %+v, %t", s.till, x, is)
		}
	}
	looks(t, a, two)
}

func TestNew(t *testing.T) { // P29.1
	for _, many := range []int{1, 2, 3, 1000, room - 1, room} {
		looks(t, made(t, many))
	}
	for _, many := range []int{0, -1, -2, -room, least, least + 1, room + 1, 2 * room, 1 << 32, 1<<32 + 1, most - 1, most} {
		if a, wrong := New(many); a != nil || wrong != api.ErrArg {
			t.Errorf("%d: %v, %d", many, a, wrong)
		}
	}
}

func TestRoomToTheLast(t *testing.T) { // P29.1
	for _, many := range []int{1, 2, 3, 5, 300, room - 1, room} {
		a := made(t, many)
		for i := range many {
			puts(t, a, at(-i, uint64(i)))
			if a.Len() != i+1 {
				t.Fatalf("%d, not %d", a.Len(), i+1)
			}
		}
		all := a.All()
		for _, time := range edges() { // whenever it is to come
			if wrong := a.Put(at(time, 7)); wrong != api.ErrFull {
				t.Errorf("%d: %d: %d", many, time, wrong)
			}
		}
		looks(t, a, all...)
		if x, is := a.Next(most); x != at(1-many, uint64(many-1)) || !is {
			t.Errorf("%d: %+v, %t", many, x, is)
		}
		puts(t, a, at(1, 8)) // what was told makes room, for one
		if wrong := a.Put(at(1, 9)); wrong != api.ErrFull {
			t.Errorf("%d: %d", many, wrong)
		}
		looks(t, a, append(all[1:], at(1, 8))...)
	}
}

func TestWhatMakesNoRoom(t *testing.T) { // P29.1, P29.2
	a := made(t, 1)
	puts(t, a, at(5, 1))
	a.Peek()
	a.All()
	a.Next(4)
	if wrong := a.Put(at(5, 2)); wrong != api.ErrFull {
		t.Errorf("%d", wrong)
	}
	looks(t, a, at(5, 1))
}

func TestManyAreToldThroughALittleRoom(t *testing.T) { // P29.1, P29.2
	a := made(t, 2)
	puts(t, a, at(0, 0))
	for i := range 3 * room { // more, one by one, than any agenda has room for
		puts(t, a, at(i/3, uint64(i+1)))
		if x, is := a.Next(most); x.Seq != uint64(i) || !is || a.Len() != 1 {
			t.Fatalf("%d: %+v, %t, %d", i, x, is, a.Len())
		}
	}
}

func TestNil(t *testing.T) { // P29.1, P29.2
	var a *Agenda
	for _, x := range []api.Event{none, at(5, 1), at(least, 1), at(most, 1), {Kind: 3, Who: 64}} {
		if wrong := a.Put(x); wrong != api.ErrNil {
			t.Errorf("%+v: %d", x, wrong)
		}
	}
	for _, till := range edges() {
		tells(t, a, till)
	}
	looks(t, a)
	if a.All() != nil {
		t.Errorf("%v", a.All())
	}
}

// One that New did not make has room for none.
func TestTheZeroAgenda(t *testing.T) { // R1
	a := &Agenda{}
	if wrong := a.Put(at(5, 1)); wrong != api.ErrFull {
		t.Errorf("%d", wrong)
	}
	tells(t, a, most)
	looks(t, a)
}

func TestWhatIsPutIsToldAsItIs(t *testing.T) { // P29.1, P29.2
	for _, x := range []api.Event{
		none,
		{At: 1, Kind: 2, Who: 3, Seq: 4},
		{At: most, Kind: most, Who: most, Seq: math.MaxUint64},
		{At: least, Kind: least, Who: least, Seq: 1 << 63},
		{At: -1, Kind: -1, Who: -1},
		{Kind: 9, Who: 65},
	} {
		a := of(t, x)
		looks(t, a, x)
		tells(t, a, x.At, x)
		looks(t, a)
	}
}

func TestTheOrderOfTimes(t *testing.T) { // P29.2, P29.3
	l := edges()
	for _, first := range l {
		for _, second := range l {
			for _, third := range l {
				put := []api.Event{at(first, 1), at(second, 2), at(third, 3)}
				a := of(t, put...)
				looks(t, a, ordered(put)...)
				tells(t, a, most, ordered(put)...)
			}
		}
	}
}

// each tells every order of the numbers from 0 on.
func each(many int, tell func(l []int)) {
	var from func(l []int)
	from = func(l []int) {
		if len(l) == many {
			tell(l)
			return
		}
		for n := range many {
			if !slices.Contains(l, n) {
				from(append(slices.Clone(l), n))
			}
		}
	}
	from(nil)
}

func TestEveryOrderOfSome(t *testing.T) { // P29.2, P29.3
	for many := range 8 {
		each(many, func(l []int) {
			var put, paired []api.Event
			for i, n := range l {
				put = append(put, at(n, uint64(i)))
				paired = append(paired, at(n/2, uint64(i))) // some are of one time
			}
			tells(t, of(t, put...), most, ordered(put)...)
			tells(t, of(t, paired...), most, ordered(paired)...)
		})
	}
}

func TestThoseOfOneTime(t *testing.T) { // P29.2, P29.3
	for _, time := range edges() {
		for many := range 40 {
			var put []api.Event
			for i := range many {
				put = append(put, api.Event{At: time, Kind: -i, Who: i * 7 % 5, Seq: uint64(many - i)}) // nothing else of them counts
			}
			a := of(t, put...)
			looks(t, a, put...)
			tells(t, a, time, put...)
		}
	}
}

func TestThoseOfOneTimeArePutAsOthersAreTold(t *testing.T) { // P29.2, P29.3
	a := made(t, 100)
	puts(t, a, at(5, 0), at(5, 1), at(4, 100), at(5, 2))
	told := uint64(0)
	for n := uint64(3); n < 300; n++ {
		if n%4 == 0 { // one ahead of them all does not change their order
			puts(t, a, at(3, 1000+n))
			if x, _ := a.Next(3); x != at(3, 1000+n) {
				t.Fatalf("%+v", x)
			}
		}
		if n == 3 {
			tells(t, a, 4, at(4, 100))
		}
		puts(t, a, at(5, n))
		if n%5 != 0 {
			if x, is := a.Next(5); x != at(5, told) || !is {
				t.Fatalf("%+v, %t, not %d", x, is, told)
			}
			told++
		}
	}
	for ; told < 300; told++ {
		if x, is := a.Next(5); x != at(5, told) || !is {
			t.Fatalf("%+v, %t, not %d", x, is, told)
		}
	}
	looks(t, a)
}

// The order is that in which they were put, also where the agenda was empty in between.
func TestPutAgain(t *testing.T) { // P29.3
	a := made(t, 4)
	x, y := at(5, 1), at(5, 2)
	for range 3 {
		puts(t, a, x, y, x, x)
		looks(t, a, x, y, x, x) // the same one twice is two
		tells(t, a, 5, x, y, x, x)
	}
	puts(t, a, x, y)
	a.Next(5)
	puts(t, a, x) // now the last one
	tells(t, a, 5, y, x)
	looks(t, a)
}

func TestNextTill(t *testing.T) { // P29.2
	for _, time := range edges() {
		for _, till := range edges() {
			a := of(t, at(time, 7))
			if till < time {
				tells(t, a, till)
				looks(t, a, at(time, 7))
				continue
			}
			tells(t, a, till, at(time, 7))
			looks(t, a)
		}
	}
	l := []api.Event{at(2, 1), at(4, 2), at(4, 3), at(7, 4)}
	for till := range 9 {
		a := of(t, l...)
		many := 0
		for many < len(l) && l[many].At <= till {
			many++
		}
		tells(t, a, till, l[:many]...)
		looks(t, a, l[many:]...)
	}
}

// Only what is taken out is gone, and what is put later may be of any time, also of one that was told.
func TestPutBehindTheTimesThatWereTold(t *testing.T) { // P29.1, P29.2
	a := of(t, at(5, 1), at(9, 2))
	tells(t, a, 8, at(5, 1))
	puts(t, a, at(1, 3), at(5, 4), at(9, 5))
	looks(t, a, at(1, 3), at(5, 4), at(9, 2), at(9, 5))
	tells(t, a, 0)
	tells(t, a, 9, at(1, 3), at(5, 4), at(9, 2), at(9, 5))
}

func TestPeekAndAllTakeNothing(t *testing.T) { // P29.2
	r := random(4)
	var l []api.Event
	for i := range 60 {
		l = append(l, at(r.below(10), uint64(i)))
	}
	a := of(t, l...)
	for range 3 {
		for range 3 {
			looks(t, a, ordered(l)...)
		}
		for range 3 { // nor does a Next that tells nothing
			tells(t, a, -1)
		}
	}
	tells(t, a, most, ordered(l)...)
}

func TestWhatCameOutStaysAsItIs(t *testing.T) { // R2
	a := of(t, at(3, 1), at(1, 2), at(2, 3))
	l := a.All()
	want := []api.Event{at(1, 2), at(2, 3), at(3, 1)}
	puts(t, a, at(0, 4))
	a.Next(0)
	a.Next(1)
	puts(t, a, at(0, 5))
	if !slices.Equal(l, want) {
		t.Errorf("%v", l)
	}
	for i := range l {
		l[i] = at(-9, 9)
	}
	_ = append(l[:1], at(-9, 9), at(-9, 9))
	looks(t, a, at(0, 5), at(2, 3), at(3, 1))
}

func TestTwoAgendas(t *testing.T) { // R2
	a, b := made(t, 3), made(t, 2)
	puts(t, a, at(5, 1), at(5, 2))
	puts(t, b, at(5, 3), at(4, 4))
	puts(t, a, at(3, 5))
	looks(t, a, at(3, 5), at(5, 1), at(5, 2))
	looks(t, b, at(4, 4), at(5, 3))
	tells(t, a, most, at(3, 5), at(5, 1), at(5, 2))
	looks(t, b, at(4, 4), at(5, 3))
}

// walked goes a random walk of calls on an agenda, each held against P29.1 and P29.2 word for word.
func walked(t *testing.T, r *random, many, few, steps int) {
	t.Helper()
	a, p := made(t, many), plain{most: many}
	full, early := 0, 0
	for range steps {
		// Fuller at some times, emptier at others.
		if r.below(100) < 30+r.below(2)*40 {
			x := r.event(few)
			wrong, want := a.Put(x), p.put(x)
			if wrong != want {
				t.Fatalf("%+v: %d, not %d", x, wrong, want)
			}
			if wrong == api.ErrFull {
				full++
			}
		} else {
			till := r.time(few)
			x, is := a.Next(till)
			if want, there := p.next(till); x != want || is != there {
				t.Fatalf("till %d: %+v, %t, not %+v, %t", till, x, is, want, there)
			}
			if !is && a.Len() > 0 {
				early++
			}
		}
		x, is := a.Peek()
		if want, there := p.peek(); x != want || is != there || a.Len() != len(p.l) {
			t.Fatalf("%+v, %t, not %+v, %t; %d, not %d", x, is, want, there, a.Len(), len(p.l))
		}
		if r.below(10) == 0 && !slices.Equal(a.All(), p.all()) {
			t.Fatalf("%v, not %v", a.All(), p.all())
		}
	}
	if early == 0 || full == 0 && many < 20 {
		t.Errorf("%d, %d: full %d times, early %d times", many, few, full, early)
	}
	tells(t, a, most, p.all()...)
}

func TestWordForWord(t *testing.T) { // P29.1, P29.2, P29.3
	r := random(29)
	for _, many := range []int{1, 2, 3, 4, 7, 15, 40, 1000} {
		for _, few := range []int{1, 2, 5, 30, 1 << 30} {
			for range 4 {
				walked(t, &r, many, few, 1500)
			}
		}
	}
}

func TestFromFullToEmpty(t *testing.T) { // P29.2, P29.3
	r := random(5)
	for _, few := range []int{1, 3, 1000, 1 << 30} {
		l := r.events(room, few)
		for i := range l {
			l[i].Seq = uint64(i)
		}
		a := made(t, room)
		puts(t, a, l...)
		if wrong := a.Put(none); wrong != api.ErrFull {
			t.Errorf("%d", wrong)
		}
		want := ordered(l)
		looks(t, a, want...)
		tells(t, a, most, want...)
		looks(t, a)
	}
}

// To tell some, and then the others, is to tell all, wherever they are parted.
func TestSomeAndThenTheOthers(t *testing.T) { // P29.3
	r := random(6)
	for range 2000 {
		l := r.events(r.below(60), 1+r.below(20))
		a := of(t, l...)
		var told []api.Event
		for range r.below(6) {
			till := r.time(20)
			all := a.All()
			for x, is := a.Next(till); is; x, is = a.Next(till) {
				told = append(told, x)
			}
			rest := a.All()
			if !slices.Equal(all[len(all)-len(rest):], rest) {
				t.Fatalf("%v of %v", rest, all)
			}
		}
		// Up to whichever times some were told, one after the other: they are the first ones of all.
		if told = append(told, a.All()...); !slices.Equal(told, ordered(l)) {
			t.Fatalf("%v, not %v", told, ordered(l))
		}
	}
}

// Each one that was put is told once, however both go on together.
func TestEachOnce(t *testing.T) { // P29.3
	r := random(7)
	for range 300 {
		a := made(t, 1+r.below(50))
		times := map[uint64]int{} // of those that were put, and not told yet
		next := uint64(0)
		for range 400 {
			if r.below(2) == 0 {
				x := at(r.time(30), next)
				if a.Put(x) == api.OK {
					times[next] = x.At
					next++
				}
				continue
			}
			x, is := a.Next(r.time(30))
			if !is {
				continue
			}
			for n, time := range times {
				if time < x.At || time == x.At && n < x.Seq {
					t.Fatalf("%+v is told ahead of %d of the time %d", x, n, time)
				}
			}
			if time, open := times[x.Seq]; !open || time != x.At {
				t.Fatalf("%+v is not to be told", x)
			}
			delete(times, x.Seq)
		}
		if a.Len() != len(times) || len(a.All()) != len(times) {
			t.Fatalf("%d, %d, not %d", a.Len(), len(a.All()), len(times))
		}
	}
}

// A heap's order is what its function tells.
func TestAHeapOfAnotherOrder(t *testing.T) {
	h := heap[string]{ahead: func(x, y string) bool { return len(x) > len(y) }}
	for _, x := range []string{"is", "a", "longest", "", "first", "what"} {
		h.put(x)
	}
	for _, want := range []string{"longest", "first", "what", "is", "a", ""} {
		if x := h.take(); x != want {
			t.Errorf("%q, not %q", x, want)
		}
	}
	if len(h.all) != 0 {
		t.Errorf("%q", h.all)
	}
}
