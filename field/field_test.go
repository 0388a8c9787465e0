package field

import (
	"math"
	"slices"
	"testing"

	"pacemaker/api"
	"pacemaker/config"
	"pacemaker/draw"
	"pacemaker/queue"
	"pacemaker/script"
	"pacemaker/sender"
)

const (
	most  = math.MaxInt
	least = math.MinInt
	end   = 549755813888 // the last time
	part  = 1000000      // of a byte
	all   = 65536        // how many events there may be
)

// way is what a field is, but for its senders.
type way struct {
	rate, room, delay int
	seed              uint64
}

// usual are usual configs of modes.
func usual(modes ...int) []api.Config {
	var l []api.Config
	for _, m := range modes {
		l = append(l, config.Usual(m))
	}
	return l
}

// steady is a usual config, but with intervals of one length, and a great burst.
func steady(length, timeout int) api.Config {
	c := config.Usual(api.Vivace)
	c.MiMin, c.MiMax, c.Timeout, c.Burst, c.Ring = length, length, timeout, 1048576, 4096
	return c
}

// some are so many of a config.
func some(many int, c api.Config) []api.Config {
	return slices.Repeat([]api.Config{c}, many)
}

// made is a field that can be made.
func made(t *testing.T, l []api.Config, w way) *Field {
	t.Helper()
	f, wrong := New(l, w.rate, w.room, w.delay, w.seed)
	if f == nil || wrong != api.OK {
		t.Fatalf("%+v, %+v: %d", l, w, wrong)
	}
	return f
}

// do does steps that can be done.
func do(t *testing.T, f *Field, l ...api.Op) {
	t.Helper()
	for i, x := range l {
		if wrong := f.Do(x); wrong != api.OK {
			t.Fatalf("%d: %+v: %d", i, x, wrong)
		}
	}
}

func op(kind, who, v int) api.Op { return api.Op{Kind: kind, Who: who, V: v} }

// waits are steps that wait so long, and no longer: by as few steps as there may be, the longest first.
func waits(span int) []api.Op {
	var l []api.Op
	for v := 255; span > 0; {
		if (v+1)*(v+1) > span {
			v--
			continue
		}
		l = append(l, op(api.OpWait, 0, v))
		span -= (v + 1) * (v + 1)
	}
	return l
}

// since are the notes behind so many that are known.
func since(f *Field, known int) []api.Note { return f.Notes()[known:] }

// noted fails where a field's notes are not these.
func noted(t *testing.T, f *Field, want ...api.Note) {
	t.Helper()
	l := f.Notes()
	for i := range max(len(l), len(want)) {
		if i >= len(l) || i >= len(want) || l[i] != want[i] {
			t.Fatalf("note %d of %d and %d: %+v, not %+v", i, len(l), len(want), l[min(i, len(l)):min(i+3, len(l))], want[min(i, len(want)):min(i+3, len(want))])
		}
	}
}

func sent(at, who int, seq uint64, size int) api.Note {
	return api.Note{At: at, Who: who, Kind: api.NoteSend, Seq: seq, N: size}
}

func unsent(at, who, size int, wrong api.Errno) api.Note {
	return api.Note{At: at, Who: who, Kind: api.NoteSend, N: size, Code: wrong}
}

func acked(at, who int, seq uint64) api.Note {
	return api.Note{At: at, Who: who, Kind: api.NoteAck, Seq: seq}
}

func unacked(at, who int, seq uint64, wrong api.Errno) api.Note {
	return api.Note{At: at, Who: who, Kind: api.NoteAck, Seq: seq, Code: wrong}
}

func lost(at, who int, seq uint64) api.Note {
	return api.Note{At: at, Who: who, Kind: api.NoteLoss, Seq: seq}
}

func turned(at, who, mode int) api.Note {
	return api.Note{At: at, Who: who, Kind: api.NoteMode, N: mode}
}

// face is what a field tells of one of its senders.
type face struct {
	plans []api.Plan
	mis   []api.Mi
	pilot api.Pilot
}

func (x face) as(y face) bool {
	return x.pilot == y.pilot && slices.Equal(x.plans, y.plans) && slices.Equal(x.mis, y.mis)
}

func faceOf(f *Field, who int) face { return face{f.Plans(who), f.Mis(who), f.Pilot(who)} }

// look is all that a field tells of itself.
type look struct {
	now   int
	queue api.Queue
	notes []api.Note
	faces []face
}

func looked(f *Field, many int) look {
	// Copies of all lists, which stay as they are, whatever is written to those that the field told.
	l := look{now: f.Now(), queue: f.Queue(), notes: slices.Clone(f.Notes())}
	for who := range many {
		l.faces = append(l.faces, face{slices.Clone(f.Plans(who)), slices.Clone(f.Mis(who)), f.Pilot(who)})
	}
	return l
}

func (x look) as(y look) bool {
	return x.now == y.now && x.queue == y.queue && slices.Equal(x.notes, y.notes) && slices.EqualFunc(x.faces, y.faces, face.as)
}

// refuses fails where a step is not refused by wrong, or leaves something.
func refuses(t *testing.T, f *Field, many int, wrong api.Errno, l ...api.Op) {
	t.Helper()
	was := looked(f, many)
	for _, x := range l {
		if got := f.Do(x); got != wrong || !looked(f, many).as(was) {
			t.Fatalf("%+v: %d, not %d: %+v, %+v", x, got, wrong, looked(f, many), was)
		}
	}
}

// model is a field by the chapter, word for word. It panics where something is refused that the chapter has no word for.
type model struct {
	l                 []api.Config
	rate, room, delay int
	now               int
	senders           []*sender.Sender
	queue             api.Queue
	events            []api.Event // in the order in which they were put
	notes             []api.Note
	packets           []uint64
	toLose            []int
	lateness          []int
	double            []bool
}

func never(wrong api.Errno) {
	if wrong != api.OK {
		panic(int(wrong))
	}
}

func modelOf(l []api.Config, rate, room, delay int, seed uint64) (*model, api.Errno) {
	if len(l) < 1 || len(l) > 64 {
		return nil, api.ErrArg
	}
	if rate < 1 || rate > 1000000000 {
		return nil, api.ErrRate
	}
	if room < 1 || room > 1073741824 {
		return nil, api.ErrSize
	}
	if delay < 0 || delay > 1000000 {
		return nil, api.ErrSpan
	}
	m := &model{l: l, rate: rate, room: room, delay: delay}
	for i, c := range l {
		x, wrong := sender.New(c, 0, 0, draw.Pcg(seed, uint64(i)))
		if wrong != api.OK {
			return nil, wrong
		}
		m.senders = append(m.senders, x)
	}
	m.packets, m.toLose, m.lateness, m.double = make([]uint64, len(l)), make([]int, len(l)), make([]int, len(l)), make([]bool, len(l))
	return m, api.OK
}

func (m *model) put(x api.Event) {
	if len(m.events) < 65536 {
		m.events = append(m.events, x)
	}
}

// next is where the first event is, of those up to a time.
func (m *model) next(till int) int {
	first := -1
	for i, e := range m.events {
		if e.At <= till && (first < 0 || e.At < m.events[first].At) {
			first = i
		}
	}
	return first
}

func (m *model) wait(till int) {
	for i := m.next(till); i >= 0; i = m.next(till) {
		e := m.events[i]
		m.events = slices.Delete(m.events, i, i+1)
		never(m.senders[e.Who].Advance(e.At))
		how := m.senders[e.Who].Ack
		if e.Kind == api.NoteLoss {
			how = m.senders[e.Who].Lose
		}
		_, wrong := how(e.Seq)
		m.notes = append(m.notes, api.Note{At: e.At, Who: e.Who, Kind: e.Kind, Seq: e.Seq, Code: wrong})
	}
	for _, x := range m.senders {
		never(x.Advance(till))
	}
	m.now = till
}

func (m *model) send(who, size int) api.Errno {
	seq, wrong := m.senders[who].Send(size)
	m.notes = append(m.notes, api.Note{At: m.now, Who: who, Kind: api.NoteSend, Seq: seq, N: size, Code: wrong})
	if wrong != api.OK {
		return wrong
	}
	m.packets[who]++
	loss := api.Event{At: m.now + 2*m.delay + 1, Kind: api.NoteLoss, Who: who, Seq: seq}
	if m.toLose[who] > 0 {
		m.toLose[who]--
		m.put(loss)
		return api.OK
	}
	leaves, q, wrong := queue.Arrive(m.room, m.queue, m.rate, api.Load{At: m.now, Size: size})
	if wrong != api.OK {
		m.put(loss)
		return api.OK
	}
	m.queue = q
	ack := api.Event{At: leaves + 2*m.delay + m.lateness[who], Kind: api.NoteAck, Who: who, Seq: seq}
	m.put(ack)
	if m.double[who] {
		ack.At++
		m.put(ack)
	}
	m.lateness[who], m.double[who] = 0, false
	return api.OK
}

func (m *model) Do(x api.Op) api.Errno {
	if x.Kind < 0 || x.Kind > 7 || x.Who < 0 || x.Who >= len(m.l) || x.V < 0 || x.V > 255 {
		return api.ErrArg
	}
	if x.Kind == api.OpWait && m.now+(x.V+1)*(x.V+1) > 549755813888 {
		return api.ErrShut
	}
	switch x.Kind {
	case 0:
		m.wait(m.now + (x.V+1)*(x.V+1))
	case 1:
		m.send(x.Who, 35*x.V+64)
	case 2:
		for n := 0; n < x.V && m.send(x.Who, m.l[x.Who].Packet) == api.OK; n++ {
		}
	case 3:
		m.toLose[x.Who] += x.V%4 + 1
	case 4:
		m.lateness[x.Who] = 100 * x.V
	case 5:
		m.double[x.Who] = true
	case 6:
		seq := m.packets[x.Who] + uint64(x.V)
		_, wrong := m.senders[x.Who].Ack(seq)
		m.notes = append(m.notes, api.Note{At: m.now, Who: x.Who, Kind: api.NoteAck, Seq: seq, Code: wrong})
	case 7:
		mode := x.V%5 + 1
		wrong := m.senders[x.Who].Switch(mode)
		m.notes = append(m.notes, api.Note{At: m.now, Who: x.Who, Kind: api.NoteMode, N: mode, Code: wrong})
	}
	return api.OK
}

func (m *model) looked() look {
	l := look{now: m.now, queue: m.queue, notes: m.notes}
	for _, x := range m.senders {
		l.faces = append(l.faces, face{x.Plans(), x.Mis(), x.Pilot()})
	}
	return l
}

// random makes the same numbers at each run.
type random uint64

func (r *random) below(n int) int {
	*r = *r*6364136223846793005 + 1442695040888963407
	return int(uint64(*r)>>33) % n
}

// upTo is 0 to n, small ones as often as great ones.
func (r *random) upTo(n int) int { return r.below(n+1) >> r.below(32) }

// config is a right one, with rates, sizes, spans and steps of all kinds.
func (r *random) config() api.Config {
	c := config.Usual(1 + r.below(5))
	c.MinRate = 1000 + r.upTo(1000000000-1000)
	c.MaxRate = c.MinRate + r.upTo(1000000000-c.MinRate)
	c.StartRate = c.MinRate + r.upTo(c.MaxRate-c.MinRate)
	c.Packet = 64 + r.upTo(9000-64)
	c.Burst = c.Packet + r.upTo(1048576-c.Packet)
	c.Ring = 1 + r.upTo(4095)
	c.MiMin = 1000 + r.upTo(100000)
	c.MiMax = c.MiMin + r.upTo(200000)
	c.Timeout = c.MiMax + r.upTo(60000000-c.MiMax)
	c.Steps = 1 + r.below(16)
	c.Eps = 1 + r.upTo(min(262144, 524288/c.Steps)-1)
	c.Omega = 1 + r.upTo(524287)
	c.Widen = r.upTo(524288)
	return c
}

func (r *random) configs() []api.Config {
	var l []api.Config
	for range 1 + r.upTo(63)%64 {
		if r.below(3) == 0 {
			l = append(l, config.Usual(1+r.below(5)))
		} else {
			l = append(l, r.config())
		}
	}
	return l
}

func (r *random) way() way {
	w := way{1 + r.upTo(1000000000-1), 1 + r.upTo(1073741824-1), r.upTo(1000000), uint64(r.below(1 << 31))}
	if r.below(2) == 0 {
		// One that such configs can fill, and wait for.
		w = way{100000 + r.below(10000000), 5000 + r.below(200000), r.below(30000), w.seed}
	}
	return w
}

// bytes are those of a script of so many steps, more of them waits and sendings than others.
func (r *random) bytes(steps int) string {
	var b []byte
	for range steps {
		kind := r.below(256)
		if r.below(2) == 0 {
			kind = r.below(3)
		}
		v := r.below(256)
		if kind == api.OpBacklog && r.below(2) == 0 {
			v = r.below(10)
		}
		b = append(b, byte(kind), byte(r.below(256)), byte(v))
	}
	return string(b)
}

func TestTheChaptersWords(t *testing.T) { // P31.1, P31.2, P31.3, P31.4
	// Of two senders over a way that takes a byte a microsecond, and is 100 long.
	f := made(t, usual(api.Vivace, api.Allegro), way{1000000, 4000, 100, 1})
	if f.Now() != 0 || f.Queue() != (api.Queue{}) {
		t.Fatalf("%d, %+v", f.Now(), f.Queue())
	}
	noted(t, f)
	do(t, f, op(api.OpSend, 1, 0), op(api.OpBacklog, 0, 2), op(api.OpBacklog, 1, 1))
	want := []api.Note{sent(0, 1, 0, 64), sent(0, 0, 0, 1500), sent(0, 0, 1, 1500), sent(0, 1, 1, 1500)}
	noted(t, f, want...)
	if f.Queue() != (api.Queue{Work: 3064 * part}) {
		t.Errorf("%+v", f.Queue())
	}
	// The fourth one found no room.
	do(t, f, waits(263)...)
	noted(t, f, append(want, lost(201, 1, 1))...)
	do(t, f, waits(1)...)
	want = append(want, lost(201, 1, 1), acked(264, 1, 0))
	noted(t, f, want...)
	do(t, f, op(api.OpLate, 0, 2), op(api.OpTwice, 0, 0), op(api.OpSend, 0, 1))
	do(t, f, waits(4000)...)
	want = append(want, sent(264, 0, 2, 99), acked(1764, 0, 0), acked(3264, 0, 1), acked(3563, 0, 2), unacked(3564, 0, 2, api.ErrTwice))
	noted(t, f, want...)
	if f.Queue() != (api.Queue{At: 264, Work: (3064 - 264 + 99) * part}) || f.Now() != 4264 {
		t.Errorf("%+v, %d", f.Queue(), f.Now())
	}
	do(t, f, op(api.OpJunk, 0, 0), op(api.OpJunk, 0, 255), op(api.OpMode, 0, 0), op(api.OpMode, 1, 8))
	want = append(want, unacked(4264, 0, 3, api.ErrNone), unacked(4264, 0, 258, api.ErrNone), turned(4264, 0, 1), turned(4264, 1, 4))
	noted(t, f, want...)
	if f.Pilot(0).Mode != api.Allegro || f.Pilot(1).Mode != api.ProteusS {
		t.Errorf("%+v, %+v", f.Pilot(0), f.Pilot(1))
	}
}

func TestNew(t *testing.T) { // P31.1
	for _, many := range []int{1, 2, 63, 64} {
		for _, w := range []way{{1, 1, 0, 0}, {1000000000, 1073741824, 1000000, math.MaxUint64}, {2, 3, 4, 5}} {
			l := some(many, config.Usual(api.Hybrid))
			f := made(t, l, w)
			m, wrong := modelOf(l, w.rate, w.room, w.delay, w.seed)
			never(wrong)
			is := looked(f, many)
			if !is.as(m.looked()) || is.now != 0 || is.queue != (api.Queue{}) || is.notes != nil {
				t.Errorf("%d, %+v: %+v", many, w, is)
			}
			for who := range many {
				if len(f.Plans(who)) != 1 || len(f.Mis(who)) != 1 || f.Pilot(who).Mode != api.Hybrid {
					t.Errorf("%d of %d, %+v: %+v", who, many, w, is.faces[who])
				}
			}
			if f.Plans(many) != nil || f.Mis(many) != nil || f.Pilot(many) != (api.Pilot{}) {
				t.Errorf("more than %d", many)
			}
		}
	}
}

func TestNewWhatIsRefused(t *testing.T) { // P31.1
	l := usual(api.Allegro, api.Vivace, api.ProteusP)
	none := []int{least, -1}
	var cases []struct {
		l     []api.Config
		w     way
		wrong api.Errno
	}
	add := func(l []api.Config, rate, room, delay int, wrong api.Errno) {
		cases = append(cases, struct {
			l     []api.Config
			w     way
			wrong api.Errno
		}{l, way{rate, room, delay, 9}, wrong})
	}
	for _, n := range append(none, 0, 1000000001, most) {
		add(l, n, 1, 0, api.ErrRate)
		add(l, n, 0, -1, api.ErrRate)
		add(make([]api.Config, 3), n, 1, 0, api.ErrRate)
		add(nil, n, 1, 0, api.ErrArg)
	}
	for _, n := range append(none, 0, 1073741825, most) {
		add(l, 1, n, 0, api.ErrSize)
		add(l, 1, n, -1, api.ErrSize)
		add(make([]api.Config, 3), 1, n, 0, api.ErrSize)
		add(nil, 1, n, 0, api.ErrArg)
	}
	for _, n := range append(none, 1000001, most) {
		add(l, 1, 1, n, api.ErrSpan)
		add(make([]api.Config, 3), 1, 1, n, api.ErrSpan)
		add(nil, 1, 1, n, api.ErrArg)
	}
	for _, many := range []int{0, 65, 66, 128, 256, 1000} {
		add(some(many, l[0]), 1, 1, 0, api.ErrArg)
		add(make([]api.Config, many), 0, 0, -1, api.ErrArg)
	}
	for i, x := range cases {
		if f, wrong := New(x.l, x.w.rate, x.w.room, x.w.delay, x.w.seed); f != nil || wrong != x.wrong {
			t.Errorf("%d: %d, %+v: %d, not %d", i, len(x.l), x.w, wrong, x.wrong)
		}
		if notes, wrong := Run(x.l, x.w.rate, x.w.room, x.w.delay, x.w.seed, "\x01\x00\x00"); notes != nil || wrong != x.wrong {
			t.Errorf("%d: %d, %+v: %d, not %d", i, len(x.l), x.w, wrong, x.wrong)
		}
	}
}

// bad are configs that are not right, with what refuses them.
func bad() map[api.Errno]api.Config {
	l := map[api.Errno]api.Config{}
	c := config.Usual(api.Vivace)
	c.Mode = 6
	l[api.ErrMode] = c
	c = config.Usual(api.Vivace)
	c.StartRate = c.MaxRate + 1
	l[api.ErrRate] = c
	c = config.Usual(api.Vivace)
	c.Ring = 0
	l[api.ErrSize] = c
	c = config.Usual(api.Vivace)
	c.Timeout = c.MiMax - 1
	l[api.ErrSpan] = c
	c = config.Usual(api.Vivace)
	c.Steps = 17
	l[api.ErrStep] = c
	c = config.Usual(api.Vivace)
	c.Power = 0
	l[api.ErrGain] = c
	return l
}

func TestNewOfConfigsThatAreNotRight(t *testing.T) { // P31.1
	for wrong, c := range bad() {
		for _, many := range []int{1, 2, 5, 64} {
			for _, at := range []int{0, many / 2, many - 1} {
				l := some(many, config.Usual(api.Vivace))
				l[at] = c
				if f, got := New(l, 1, 1, 0, 0); f != nil || got != wrong {
					t.Errorf("%d of %d: %d, not %d", at, many, got, wrong)
				}
				if notes, got := Run(l, 1, 1, 0, 0, "\x01\x00\x00"); notes != nil || got != wrong {
					t.Errorf("%d of %d: %d, not %d", at, many, got, wrong)
				}
				// The first one's is told, whatever the others' are.
				for _, d := range bad() {
					for i := at + 1; i < many; i++ {
						l[i] = d
					}
					if f, got := New(l, 1, 1, 0, 0); f != nil || got != wrong {
						t.Errorf("%d of %d: %d, not %d", at, many, got, wrong)
					}
				}
			}
		}
	}
}

func TestEachSendersSourceIsOfItsPlace(t *testing.T) { // P31.1
	for _, seed := range []uint64{0, 1, 42, 1 << 63, math.MaxUint64} {
		c := config.Usual(api.Allegro)
		f := made(t, some(64, c), way{1000000, 9000, 5, seed})
		for range 40 {
			do(t, f, op(api.OpWait, 0, 255))
		}
		ends := map[int]bool{}
		for who := range 64 {
			x, wrong := sender.New(c, 0, 0, draw.Pcg(seed, uint64(who)))
			never(wrong)
			for at := 65536; at <= 40*65536; at += 65536 {
				never(x.Advance(at))
			}
			if !faceOf(f, who).as(face{x.Plans(), x.Mis(), x.Pilot()}) {
				t.Fatalf("%d of %d: %+v", who, seed, faceOf(f, who))
			}
			ends[f.Plans(who)[0].End] = true
		}
		if len(ends) < 50 {
			t.Errorf("%d: %v", seed, ends)
		}
	}
}

func TestFirstNumberIsZero(t *testing.T) { // P31.1, P31.3
	f := made(t, usual(1, 2, 3, 4, 5), way{1000, 100000, 0, 3})
	var want []api.Note
	for seq := range uint64(3) {
		for _, who := range []int{4, 0, 2, 1, 3} {
			do(t, f, op(api.OpSend, who, 3))
			want = append(want, sent(0, who, seq, 169))
		}
	}
	noted(t, f, want...)
}

func TestDoWhatMayNotBe(t *testing.T) { // P31.2
	for _, many := range []int{1, 2, 3, 63, 64} {
		f := made(t, some(many, config.Usual(api.Vivace)), way{1000000, 9000, 100, 1})
		do(t, f, op(api.OpSend, many-1, 0), op(api.OpLose, 0, 0), op(api.OpWait, many-1, 3))
		var l []api.Op
		for _, n := range []int{least, -1, -8, -256} {
			l = append(l, op(n, 0, 0), op(0, n, 0), op(0, 0, n), op(1, n, 0), op(2, 0, n))
		}
		for kind := range 8 {
			for _, n := range []int{least, -1, 256, 257, 1 << 40, most} {
				l = append(l, op(kind, 0, n), op(kind, many-1, n))
			}
			for _, n := range []int{least, -1, many, many + 1, 64, 256, most} {
				if n != many-1 {
					l = append(l, op(kind, n, 0), op(kind, n, 255))
				}
			}
		}
		for _, n := range []int{8, 9, 15, 16, 255, 256, 264, most} {
			l = append(l, op(n, 0, 0), op(n, many-1, 255))
		}
		refuses(t, f, many, api.ErrArg, l...)
		do(t, f, op(api.OpWait, 0, 0), op(api.OpSend, many-1, 255))
	}
}

func TestWaitSpans(t *testing.T) { // P31.2
	f := made(t, usual(2, 1, 5), way{1000000, 9000, 100, 7})
	at := 0
	for v := range 256 {
		do(t, f, op(api.OpWait, v%3, v))
		at += (v + 1) * (v + 1)
		if f.Now() != at {
			t.Fatalf("%d: %d, not %d", v, f.Now(), at)
		}
		for who := range 3 {
			l := f.Plans(who)
			// The last plan is the one of now, and those ahead of it are over.
			if last := l[len(l)-1]; last.From > at || last.End <= at {
				t.Fatalf("%d at %d: %+v", who, at, last)
			}
		}
	}
	noted(t, f)
	// No other step lets time go by.
	for kind := 1; kind < 8; kind++ {
		for _, v := range []int{0, 1, 255} {
			do(t, f, op(kind, 2, v))
			if f.Now() != at {
				t.Fatalf("%d %d: %d", kind, v, f.Now())
			}
		}
	}
}

func TestWaitTellsWhatIsUpToItsEnd(t *testing.T) { // P31.2
	// An ack at 64 and 20: not one microsecond ahead of that, but then.
	for _, span := range []int{1, 50, 83, 84, 85, 1000} {
		f := made(t, usual(2), way{1000000, 9000, 10, 7})
		do(t, f, op(api.OpSend, 0, 0))
		do(t, f, waits(span)...)
		want := []api.Note{sent(0, 0, 0, 64)}
		if span >= 84 {
			want = append(want, acked(84, 0, 0))
		}
		noted(t, f, want...)
		if m := f.Mis(0); m[0].Hits != len(want)-1 || f.Now() != span {
			t.Errorf("%d: %+v at %d", span, m, f.Now())
		}
	}
	// So for a loss, at 21.
	for _, span := range []int{1, 20, 21, 22, 1000} {
		f := made(t, usual(2), way{1000000, 9000, 10, 7})
		do(t, f, op(api.OpLose, 0, 0), op(api.OpSend, 0, 0))
		do(t, f, waits(span)...)
		want := []api.Note{sent(0, 0, 0, 64)}
		if span >= 21 {
			want = append(want, lost(21, 0, 0))
		}
		noted(t, f, want...)
		if m := f.Mis(0); m[0].Drops != len(want)-1 {
			t.Errorf("%d: %+v", span, m)
		}
	}
}

func TestAcksComeAtTheirTimes(t *testing.T) { // P31.2
	// What is acked in the middle of a wait is a sample of then, not of the wait's end, or its beginning.
	f := made(t, some(2, steady(1000000, 2000000)), way{1000000, 90000, 1000, 7})
	do(t, f, op(api.OpSend, 0, 0), op(api.OpSend, 1, 10), op(api.OpWait, 0, 9), op(api.OpSend, 0, 0), op(api.OpWait, 0, 255))
	noted(t, f, sent(0, 0, 0, 64), sent(0, 1, 0, 414), sent(100, 0, 1, 64), acked(2064, 0, 0), acked(2478, 1, 0), acked(2542, 0, 1))
	if m := f.Mis(0)[0]; m.N != 2 || m.SumR != 2064+2442 || m.SumT != 100 || m.Acked != 128 {
		t.Errorf("%+v", m)
	}
	if m := f.Mis(1)[0]; m.N != 1 || m.SumR != 2478 {
		t.Errorf("%+v", m)
	}
}

func TestOfOneTimeWhatWasPutFirst(t *testing.T) { // P31.2, P31.3
	// Acks of two senders, both at 200: the first one's leaves at 100, and is 100 late.
	for _, first := range []int{0, 1, 2} {
		f := made(t, some(3, steady(1000000, 2000000)), way{640000, 90000, 0, 7})
		second := (first + 1) % 3
		do(t, f, op(api.OpLate, first, 1), op(api.OpSend, first, 0), op(api.OpSend, second, 0), op(api.OpSend, first, 0), op(api.OpWait, 0, 255))
		noted(t, f, sent(0, first, 0, 64), sent(0, second, 0, 64), sent(0, first, 1, 64), acked(200, first, 0), acked(200, second, 0), acked(300, first, 1))
	}
	// Many losses of one time, and acks of that time, put in between.
	f := made(t, some(64, steady(1000000, 2000000)), way{64000000, 90000, 0, 7})
	var want []api.Note
	for who := 63; who >= 0; who-- {
		do(t, f, op(api.OpLose, who, 0), op(api.OpSend, who, 0))
		want = append(want, lost(1, who, 0))
		if who == 20 {
			do(t, f, op(api.OpSend, 5, 0))
			do(t, f, op(api.OpTwice, 6, 0), op(api.OpSend, 6, 0))
			want = append(want, acked(1, 5, 0), acked(2, 6, 0), unacked(3, 6, 0, api.ErrTwice))
		}
	}
	// 5 and 6 had sent a packet by then, so their next ones are of the number 1.
	for i, x := range want {
		if x.Kind == api.NoteLoss && (x.Who == 5 || x.Who == 6) {
			want[i].Seq = 1
		}
	}
	known := len(f.Notes())
	do(t, f, op(api.OpWait, 0, 1))
	slices.SortStableFunc(want, func(x, y api.Note) int { return x.At - y.At })
	if l := since(f, known); !slices.Equal(l, want) {
		t.Errorf("%+v, not %+v", l, want)
	}
}

func TestWaitMovesAllSenders(t *testing.T) { // P31.2
	// Their packets are lost by a timeout, whoever the wait is about, and without a note.
	f := made(t, some(3, steady(1000, 5000)), way{1, 1000000, 1000000, 7})
	for who := range 3 {
		do(t, f, op(api.OpSend, who, 0))
	}
	do(t, f, waits(4999)...)
	for who := range 3 {
		if m := f.Mis(who); m[0].Drops != 0 || len(m) != 5 || len(f.Plans(who)) != 5 {
			t.Errorf("%d: %+v", who, m)
		}
	}
	do(t, f, op(api.OpWait, 1, 0))
	for who := range 3 {
		if m := f.Mis(who); len(m) != 1 || m[0].Id != 5 || len(f.Plans(who)) != 6 {
			t.Errorf("%d: %+v", who, m)
		}
	}
	if l := f.Notes(); len(l) != 3 {
		t.Errorf("%+v", l)
	}
	// The acks of them come all the same, and are refused.
	f = made(t, some(2, steady(1000, 5000)), way{1000000, 1000000, 3000, 7})
	do(t, f, op(api.OpSend, 0, 0), op(api.OpLose, 1, 0), op(api.OpSend, 1, 0))
	do(t, f, waits(6064)...)
	noted(t, f, sent(0, 0, 0, 64), sent(0, 1, 0, 64), api.Note{At: 6001, Who: 1, Kind: api.NoteLoss, Code: api.ErrTwice}, unacked(6064, 0, 0, api.ErrTwice))
}

func TestAnAckComesAheadOfItsTimeout(t *testing.T) { // P31.2
	// At a time a sender goes on to that time first, so what is over then is lost, and its ack is refused; one ahead of it is not.
	for _, delay := range []int{2467, 2468} {
		f := made(t, some(1, steady(1000, 5000)), way{1000000, 1000000, delay, 7})
		do(t, f, op(api.OpSend, 0, 0), op(api.OpWait, 0, 100))
		want := acked(64+2*delay, 0, 0)
		if delay == 2468 {
			want = unacked(5000, 0, 0, api.ErrTwice)
		}
		noted(t, f, sent(0, 0, 0, 64), want)
	}
}

// last is a field of so many steady senders whose time is that far ahead of the last one.
func last(t *testing.T, many, ahead int, w way) *Field {
	t.Helper()
	c := steady(10000000, 60000000)
	f := made(t, some(many, c), w)
	f.now = end - ahead
	for who, m := range f.members {
		x, wrong := sender.New(c, 0, f.now, draw.Pcg(w.seed, uint64(who)))
		never(wrong)
		m.sender = x
	}
	return f
}

func TestDoBehindTheLastTime(t *testing.T) { // P31.2
	for _, v := range []int{0, 1, 9, 255} {
		span := (v + 1) * (v + 1)
		f := last(t, 2, span, way{1000000, 9000, 100, 1})
		if v < 255 {
			refuses(t, f, 2, api.ErrShut, op(api.OpWait, 0, v+1), op(api.OpWait, 1, 255))
		}
		refuses(t, f, 2, api.ErrArg, op(api.OpWait, 2, 255), op(api.OpWait, 0, 256))
		do(t, f, op(api.OpWait, 0, v))
		if f.Now() != end {
			t.Errorf("%d: %d", v, f.Now())
		}
		// Then no time is left, but all other steps are done.
		for v := range 256 {
			refuses(t, f, 2, api.ErrShut, op(api.OpWait, 0, v))
		}
		do(t, f, op(api.OpSend, 0, 0), op(api.OpBacklog, 1, 2), op(api.OpLose, 0, 0), op(api.OpSend, 0, 0), op(api.OpJunk, 0, 1), op(api.OpMode, 1, 0), op(api.OpLate, 0, 1), op(api.OpTwice, 0, 1))
		noted(t, f, sent(end, 0, 0, 64), sent(end, 1, 0, 1500), sent(end, 1, 1, 1500), sent(end, 0, 1, 64), unacked(end, 0, 3, api.ErrNone), turned(end, 1, 1))
		refuses(t, f, 2, api.ErrShut, op(api.OpWait, 1, 0))
		refuses(t, f, 2, api.ErrArg, op(api.OpWait, 2, 0))
	}
}

func TestEventsBehindTheLastTime(t *testing.T) { // P31.2
	f := last(t, 1, 100, way{1000000, 9000, 18, 1})
	do(t, f, op(api.OpSend, 0, 0), op(api.OpSend, 0, 0), op(api.OpWait, 0, 9))
	noted(t, f, sent(end-100, 0, 0, 64), sent(end-100, 0, 1, 64), acked(end, 0, 0))
}

func TestRunToTheLastTime(t *testing.T) { // P31.2, P31.4
	// 8388608 of the longest waits lead there.
	var b []byte
	b = append(b, 1, 0, 0)
	b = append(b, slices.Repeat([]byte{0, 0, 255}, 8388607)...)
	b = append(b, 1, 0, 1, 7, 0, 0)
	l := some(1, steady(10000000, 60000000))
	want := []api.Note{sent(0, 0, 0, 64), acked(64, 0, 0), sent(end-65536, 0, 1, 99), turned(end-65536, 0, 1)}
	notes, wrong := Run(l, 1000000, 9000, 0, 1, string(b))
	if wrong != api.OK || !slices.Equal(notes, want) {
		t.Errorf("%d: %+v", wrong, notes)
	}
	// One wait more comes to an end there, the one behind it is refused, and what is behind that is not done.
	b = append(b, 0, 0, 255, 1, 0, 2, 0, 0, 0, 1, 0, 3)
	want = append(want, acked(end-65536+99, 0, 1), sent(end, 0, 2, 134))
	notes, wrong = Run(l, 1000000, 9000, 0, 1, string(b))
	if wrong != api.ErrShut || !slices.Equal(notes, want) {
		t.Errorf("%d: %+v", wrong, notes)
	}
}

func TestSendOne(t *testing.T) { // P31.2, P31.3
	f := made(t, some(1, steady(1000000, 2000000)), way{1000000, 1 << 30, 0, 7})
	work := 0
	for v := range 256 {
		if f.Plans(0)[0].End <= f.Now() {
			break
		}
		do(t, f, op(api.OpSend, 0, v))
		l := f.Notes()
		if n := l[len(l)-1]; n.Code == api.OK {
			work += n.N
			if n != sent(0, 0, uint64(v), 35*v+64) {
				t.Fatalf("%d: %+v", v, n)
			}
		} else if n != unsent(0, 0, 35*v+64, api.ErrEarly) || work+35*v+64 <= 1048576 {
			t.Fatalf("%d of %d: %+v", v, work, n)
		}
	}
	if len(f.Notes()) != 256 || f.Queue() != (api.Queue{Work: work * part}) {
		t.Errorf("%d, %+v", len(f.Notes()), f.Queue())
	}
}

func TestBacklog(t *testing.T) { // P31.2
	for _, size := range []int{64, 1500, 9000} {
		c, d := steady(1000000, 2000000), steady(1000000, 2000000)
		c.Packet, d.Packet = size, 100
		c.Burst = 10*size + size/2
		f := made(t, []api.Config{d, c, d}, way{1000000, 1 << 30, 0, 7})
		var want []api.Note
		do(t, f, op(api.OpBacklog, 1, 0))
		noted(t, f)
		for seq := range uint64(3) {
			want = append(want, sent(0, 1, seq, size))
		}
		do(t, f, op(api.OpBacklog, 1, 3))
		noted(t, f, want...)
		want = append(want, sent(0, 1, 3, size))
		do(t, f, op(api.OpBacklog, 1, 1))
		noted(t, f, want...)
		for seq := uint64(4); seq < 10; seq++ {
			want = append(want, sent(0, 1, seq, size))
		}
		do(t, f, op(api.OpBacklog, 1, 6))
		noted(t, f, want...)
		// Those behind the first one that is refused are not tried.
		for _, v := range []int{1, 2, 255} {
			want = append(want, unsent(0, 1, size, api.ErrEarly))
			do(t, f, op(api.OpBacklog, 1, v))
			noted(t, f, want...)
		}
		want = append(want, sent(0, 0, 0, 100), sent(0, 2, 0, 100), sent(0, 2, 1, 100))
		do(t, f, op(api.OpBacklog, 0, 1), op(api.OpBacklog, 2, 2))
		noted(t, f, want...)
	}
	// All that it asks for, if that can be sent.
	f := made(t, some(1, steady(1000000, 2000000)), way{1000000, 1 << 30, 0, 7})
	do(t, f, op(api.OpBacklog, 0, 255))
	if l := f.Notes(); len(l) != 255 || l[254] != sent(0, 0, 254, 1500) {
		t.Errorf("%d: %+v", len(l), l[len(l)-1])
	}
}

func TestWhatIsRefusedIsNotSent(t *testing.T) { // P31.2, P31.3
	c := steady(1000000, 2000000)
	c.Ring = 2
	f := made(t, []api.Config{c, config.Usual(api.Vivace)}, way{1000000, 90000, 0, 7})
	do(t, f, op(api.OpBacklog, 0, 9), op(api.OpSend, 0, 255), op(api.OpBacklog, 1, 9), op(api.OpSend, 1, 50), op(api.OpSend, 1, 0))
	var want []api.Note
	want = append(want, sent(0, 0, 0, 1500), sent(0, 0, 1, 1500), unsent(0, 0, 1500, api.ErrFull), unsent(0, 0, 8989, api.ErrFull))
	for seq := range uint64(9) {
		want = append(want, sent(0, 1, seq, 1500))
	}
	want = append(want, unsent(0, 1, 1814, api.ErrEarly), sent(0, 1, 9, 64))
	noted(t, f, want...)
	if f.Queue() != (api.Queue{Work: (11*1500 + 64) * part}) {
		t.Errorf("%+v", f.Queue())
	}
	// What is to become of the next one is left to one that is sent.
	do(t, f, op(api.OpLose, 0, 0), op(api.OpSend, 0, 0), op(api.OpLate, 1, 7), op(api.OpTwice, 1, 0), op(api.OpSend, 1, 255))
	want = append(want, unsent(0, 0, 64, api.ErrFull), unsent(0, 1, 8989, api.ErrEarly))
	// Nor does it count for junk.
	do(t, f, op(api.OpJunk, 0, 0), op(api.OpJunk, 1, 0))
	want = append(want, unacked(0, 0, 2, api.ErrNone), unacked(0, 1, 10, api.ErrNone))
	noted(t, f, want...)
	do(t, f, waits(20000)...)
	for i := range 11 {
		at, who, seq := 1500*(i+1), 0, uint64(i)
		if i > 1 {
			who, seq = 1, uint64(i-2)
		}
		want = append(want, acked(at, who, seq))
	}
	want = append(want, acked(16564, 1, 9))
	noted(t, f, want...)
	do(t, f, op(api.OpSend, 0, 0), op(api.OpSend, 1, 0))
	want = append(want, sent(20000, 0, 2, 64), sent(20000, 1, 10, 64))
	do(t, f, waits(2000)...)
	want = append(want, lost(20001, 0, 2), acked(20764, 1, 10), unacked(20765, 1, 10, api.ErrTwice))
	noted(t, f, want...)
}

// fatesOf are the kinds of what came of a sender's packets, by their numbers, as far as it came.
func fatesOf(f *Field, who int) map[uint64]int {
	l := map[uint64]int{}
	for _, n := range f.Notes() {
		if n.Who == who && (n.Kind == api.NoteAck || n.Kind == api.NoteLoss) && n.Code == api.OK {
			l[n.Seq] = n.Kind
		}
	}
	return l
}

func TestLose(t *testing.T) { // P31.2, P31.3
	for v := range 256 {
		f := made(t, some(2, steady(1000000, 2000000)), way{1000000000, 1 << 30, 100, 7})
		do(t, f, op(api.OpLose, 1, v), op(api.OpBacklog, 0, 10), op(api.OpBacklog, 1, 10), op(api.OpWait, 0, 50))
		for who := range 2 {
			l := fatesOf(f, who)
			for seq := range uint64(10) {
				want := api.NoteAck
				if who == 1 && int(seq) < v%4+1 {
					want = api.NoteLoss
				}
				if l[seq] != want {
					t.Fatalf("%d: %d of %d: %d", v, seq, who, l[seq])
				}
			}
		}
		if n := f.Queue().Work; n != (20-v%4-1)*1500*part {
			t.Fatalf("%d: %d", v, n)
		}
	}
}

func TestLoseMore(t *testing.T) { // P31.2, P31.3
	f := made(t, some(2, steady(1000000, 2000000)), way{1000000000, 1 << 30, 100, 7})
	// 4, 3 and 1 more, of which 2 are lost in between.
	do(t, f, op(api.OpLose, 0, 3), op(api.OpLose, 0, 2), op(api.OpBacklog, 0, 2), op(api.OpBacklog, 1, 2), op(api.OpLose, 0, 4), op(api.OpWait, 0, 3), op(api.OpBacklog, 0, 10), op(api.OpWait, 0, 50))
	l := fatesOf(f, 0)
	for seq := range uint64(12) {
		want := api.NoteAck
		if seq < 8 {
			want = api.NoteLoss
		}
		if l[seq] != want {
			t.Errorf("%d: %d", seq, l[seq])
		}
	}
	if l := fatesOf(f, 1); l[0] != api.NoteAck || l[1] != api.NoteAck {
		t.Errorf("%v", l)
	}
	// Many times, so that all packets for a long time are lost.
	for range 100 {
		do(t, f, op(api.OpLose, 1, 255))
	}
	for range 40 {
		do(t, f, op(api.OpBacklog, 1, 10), op(api.OpWait, 0, 50))
	}
	do(t, f, op(api.OpBacklog, 1, 1), op(api.OpWait, 0, 50))
	l = fatesOf(f, 1)
	if len(l) != 403 || l[401] != api.NoteLoss || l[402] != api.NoteAck {
		t.Errorf("%d, %v", len(l), l)
	}
}

func TestLate(t *testing.T) { // P31.2, P31.3
	for v := range 256 {
		f := made(t, some(2, steady(1000000, 2000000)), way{1000000, 1 << 30, 100, 7})
		do(t, f, op(api.OpLate, 1, v), op(api.OpSend, 0, 0), op(api.OpSend, 1, 0), op(api.OpSend, 1, 0), op(api.OpWait, 0, 255))
		want := []api.Note{sent(0, 0, 0, 64), sent(0, 1, 0, 64), sent(0, 1, 1, 64), acked(264, 0, 0), acked(328+100*v, 1, 0), acked(392, 1, 1)}
		if v > 0 {
			want[4], want[5] = want[5], want[4]
		}
		noted(t, f, want...)
		// The queue goes by when it leaves, not by its ack.
		if f.Queue().Work != 192*part {
			t.Errorf("%+v", f.Queue())
		}
	}
}

func TestLateAnew(t *testing.T) { // P31.2, P31.3
	// What is said last counts.
	for _, v := range []int{0, 1, 200} {
		f := made(t, some(1, steady(1000000, 2000000)), way{1000000, 1 << 30, 100, 7})
		do(t, f, op(api.OpLate, 0, 9), op(api.OpLate, 0, v), op(api.OpSend, 0, 0), op(api.OpWait, 0, 255))
		noted(t, f, sent(0, 0, 0, 64), acked(264+100*v, 0, 0))
	}
}

func TestTwice(t *testing.T) { // P31.2, P31.3
	for _, v := range []int{0, 1, 2, 255} {
		f := made(t, some(2, steady(1000000, 2000000)), way{1000000, 1 << 30, 100, 7})
		// To say it again makes it no more than twice.
		do(t, f, op(api.OpTwice, 1, v), op(api.OpTwice, 1, v), op(api.OpSend, 0, 0), op(api.OpSend, 1, 0), op(api.OpSend, 1, 0), op(api.OpWait, 0, 255))
		noted(t, f, sent(0, 0, 0, 64), sent(0, 1, 0, 64), sent(0, 1, 1, 64), acked(264, 0, 0), acked(328, 1, 0), unacked(329, 1, 0, api.ErrTwice), acked(392, 1, 1))
	}
}

func TestLateAndTwice(t *testing.T) { // P31.3
	f := made(t, some(1, steady(1000000, 2000000)), way{1000000, 1 << 30, 100, 7})
	do(t, f, op(api.OpTwice, 0, 0), op(api.OpLate, 0, 3), op(api.OpSend, 0, 0), op(api.OpWait, 0, 255))
	noted(t, f, sent(0, 0, 0, 64), acked(564, 0, 0), unacked(565, 0, 0, api.ErrTwice))
}

func TestWhatIsLostHasNoAck(t *testing.T) { // P31.2, P31.3
	// So it is the one behind it whose ack is late, and comes twice: behind one that is to be lost, and one that has no room.
	f := made(t, some(1, steady(1000000, 2000000)), way{1000000, 1000, 100, 7})
	do(t, f, op(api.OpTwice, 0, 0), op(api.OpLate, 0, 3), op(api.OpLose, 0, 0), op(api.OpSend, 0, 1), op(api.OpSend, 0, 27), op(api.OpSend, 0, 0), op(api.OpSend, 0, 0), op(api.OpWait, 0, 255))
	noted(t, f, sent(0, 0, 0, 99), sent(0, 0, 1, 1009), sent(0, 0, 2, 64), sent(0, 0, 3, 64), lost(201, 0, 0), lost(201, 0, 1), acked(328, 0, 3), acked(564, 0, 2), unacked(565, 0, 2, api.ErrTwice))
}

func TestWhatIsToBeLostIsLostOnce(t *testing.T) { // P31.3
	// It does not come to the queue, and one that has no room is none of those that are to be lost.
	f := made(t, some(1, steady(1000000, 2000000)), way{1000000, 1000, 0, 7})
	do(t, f, op(api.OpSend, 0, 26), op(api.OpSend, 0, 0), op(api.OpLose, 0, 0), op(api.OpSend, 0, 255))
	if f.Queue() != (api.Queue{Work: 974 * part}) {
		t.Errorf("%+v", f.Queue())
	}
	do(t, f, op(api.OpWait, 0, 31), op(api.OpSend, 0, 0), op(api.OpWait, 0, 31))
	noted(t, f, sent(0, 0, 0, 974), sent(0, 0, 1, 64), sent(0, 0, 2, 8989), lost(1, 0, 1), lost(1, 0, 2), acked(974, 0, 0), sent(1024, 0, 3, 64), acked(1088, 0, 3))
}

func TestHowLongTheWayIs(t *testing.T) { // P31.3
	for _, delay := range []int{0, 1, 2, 999, 1000000} {
		for _, rate := range []int{1, 63, 64, 65, 1000000, 63999999, 64000000, 1000000000} {
			c := steady(10000000, 60000000)
			f := made(t, some(1, c), way{rate, 200, delay, 7})
			do(t, f, op(api.OpSend, 0, 0), op(api.OpLose, 0, 0), op(api.OpSend, 0, 0), op(api.OpSend, 0, 4))
			do(t, f, waits(2100000)...)
			through := (64*part + rate - 1) / rate
			want := []api.Note{sent(0, 0, 0, 64), sent(0, 0, 1, 64), sent(0, 0, 2, 204), lost(2*delay+1, 0, 1), lost(2*delay+1, 0, 2)}
			switch back := through + 2*delay; {
			case through == 1:
				want = slices.Insert(want, 3, acked(back, 0, 0))
			case back <= 2100000:
				want = append(want, acked(back, 0, 0))
			}
			noted(t, f, want...)
		}
	}
}

func TestRoom(t *testing.T) { // P31.3
	for _, room := range []int{1, 63, 64, 65, 127, 128, 129, 1 << 30} {
		f := made(t, some(2, steady(1000000, 2000000)), way{1000000, room, 0, 7})
		do(t, f, op(api.OpSend, 0, 0), op(api.OpSend, 1, 0), op(api.OpWait, 0, 255))
		want := []api.Note{sent(0, 0, 0, 64), sent(0, 1, 0, 64)}
		switch {
		case room < 64:
			want = append(want, lost(1, 0, 0), lost(1, 1, 0))
		case room < 128:
			want = append(want, lost(1, 1, 0), acked(64, 0, 0))
		default:
			want = append(want, acked(64, 0, 0), acked(128, 1, 0))
		}
		noted(t, f, want...)
	}
}

func TestTheQueueEmptiesAsTimeGoesOn(t *testing.T) { // P31.3, P31.4
	f := made(t, some(2, steady(1000000, 2000000)), way{1000000, 1000, 0, 7})
	do(t, f, op(api.OpSend, 0, 26)) // 974
	do(t, f, waits(37)...)
	do(t, f, op(api.OpSend, 1, 0)) // just 1 too many
	if q := f.Queue(); q != (api.Queue{Work: 974 * part}) {
		t.Errorf("%+v", q)
	}
	do(t, f, waits(1)...)
	do(t, f, op(api.OpSend, 1, 0))
	if q := f.Queue(); q != (api.Queue{At: 38, Work: 1000 * part}) {
		t.Errorf("%+v", q)
	}
	do(t, f, waits(5000)...)
	// What is told is the queue of the last one that came.
	if q := f.Queue(); q != (api.Queue{At: 38, Work: 1000 * part}) {
		t.Errorf("%+v", q)
	}
	do(t, f, op(api.OpSend, 1, 1))
	if q := f.Queue(); q != (api.Queue{At: 5038, Work: 99 * part}) {
		t.Errorf("%+v", q)
	}
	do(t, f, waits(99)...)
	noted(t, f, sent(0, 0, 0, 974), sent(37, 1, 0, 64), lost(38, 1, 0), sent(38, 1, 1, 64), acked(974, 0, 0), acked(1038, 1, 1), sent(5038, 1, 2, 99), acked(5137, 1, 2))
}

func TestJunk(t *testing.T) { // P31.2
	f := made(t, some(2, steady(1000000, 2000000)), way{1000000, 10000, 0, 7})
	var want []api.Note
	junk := func(who int, sent uint64) {
		t.Helper()
		was := faceOf(f, who)
		for v := range 256 {
			do(t, f, op(api.OpJunk, who, v))
			want = append(want, unacked(f.Now(), who, sent+uint64(v), api.ErrNone))
		}
		noted(t, f, want...)
		if !faceOf(f, who).as(was) {
			t.Errorf("%+v, not %+v", faceOf(f, who), was)
		}
	}
	junk(0, 0)
	junk(1, 0)
	do(t, f, op(api.OpSend, 1, 0), op(api.OpSend, 1, 255), op(api.OpSend, 1, 255))
	want = append(want, sent(0, 1, 0, 64), sent(0, 1, 1, 8989), sent(0, 1, 2, 8989))
	junk(0, 0)
	junk(1, 3)
	do(t, f, op(api.OpWait, 0, 9))
	want = append(want, lost(1, 1, 2), acked(64, 1, 0))
	junk(1, 3)
	// It takes nothing from the next one's.
	do(t, f, op(api.OpTwice, 1, 0), op(api.OpLate, 1, 1), op(api.OpJunk, 1, 0), op(api.OpSend, 1, 0), op(api.OpWait, 0, 99))
	want = append(want, unacked(100, 1, 3, api.ErrNone), sent(100, 1, 3, 64), acked(9053, 1, 1), acked(9217, 1, 3), unacked(9218, 1, 3, api.ErrTwice))
	noted(t, f, want...)
}

func TestMode(t *testing.T) { // P31.2
	f := made(t, usual(5, 4, 3), way{1000000, 10000, 0, 7})
	var want []api.Note
	for v := range 256 {
		who, mode := v%3, v%5+1
		gen, was := f.Pilot(who).Gen, f.Pilot(who).Mode
		others := []face{faceOf(f, (who+1)%3), faceOf(f, (who+2)%3)}
		do(t, f, op(api.OpMode, who, v))
		want = append(want, turned(0, who, mode))
		if x := f.Pilot(who); x.Mode != mode || (x.Gen == gen) != (mode == was) {
			t.Errorf("%d: %+v", v, x)
		}
		if !others[0].as(faceOf(f, (who+1)%3)) || !others[1].as(faceOf(f, (who+2)%3)) {
			t.Errorf("%d: %+v", v, others)
		}
	}
	noted(t, f, want...)
}

func TestWhatIsToComeIsEachSendersOwn(t *testing.T) { // P31.2, P31.3
	f := made(t, some(3, steady(1000000, 2000000)), way{1000000, 10000, 0, 7})
	do(t, f, op(api.OpLose, 0, 0), op(api.OpLate, 1, 1), op(api.OpTwice, 2, 0))
	for _, who := range []int{2, 1, 0} {
		do(t, f, op(api.OpSend, who, 0))
	}
	do(t, f, op(api.OpWait, 0, 99))
	noted(t, f, sent(0, 2, 0, 64), sent(0, 1, 0, 64), sent(0, 0, 0, 64), lost(1, 0, 0), acked(64, 2, 0), unacked(65, 2, 0, api.ErrTwice), acked(228, 1, 0))
}

// crowd is a field with so many events to come, of senders with 4096 packets each.
func crowd(t *testing.T, events int) *Field {
	t.Helper()
	f := made(t, some(17, steady(1000000, 2000000)), way{1000000000, 1 << 30, 1000, 7})
	for n := range events {
		if wrong := f.Do(op(api.OpSend, n/4096, 0)); wrong != api.OK {
			t.Fatal(wrong)
		}
	}
	if l := f.Notes(); len(l) != events || events > 0 && l[events-1].Code != api.OK {
		t.Fatalf("%d of %d", len(l), events)
	}
	return f
}

func TestWhatTheAgendaHasNoRoomFor(t *testing.T) { // P31.3
	for _, missing := range []int{0, 1, 2, 3} {
		f := crowd(t, all-missing)
		// An ack that comes twice, and a packet that is lost, and one behind these.
		do(t, f, op(api.OpTwice, 16, 0), op(api.OpSend, 16, 1), op(api.OpLose, 16, 0), op(api.OpSend, 16, 0), op(api.OpLate, 16, 4), op(api.OpSend, 16, 0))
		known := all - missing + 3
		do(t, f, op(api.OpWait, 0, 255))
		last := (64*(all-missing) + 99 + 999) / 1000
		got := since(f, known)
		if len(got) != all {
			t.Fatalf("%d: %d", missing, len(got))
		}
		var of16 []api.Note
		for _, n := range got {
			if n.Who == 16 {
				of16 = append(of16, n)
			}
		}
		want := []api.Note{acked(last+2000, 16, 0), unacked(last+2001, 16, 0, api.ErrTwice), lost(2001, 16, 1)}[:missing]
		if missing == 3 {
			want = []api.Note{want[2], want[0], want[1]}
		}
		if !slices.Equal(of16, want) {
			t.Errorf("%d: %+v, not %+v", missing, of16, want)
		}
		// What was not put is no more late, or to be lost: behind all these there is room for more, which come as usual.
		do(t, f, op(api.OpSend, 16, 2), op(api.OpWait, 0, 255))
		if got := since(f, known+all); !slices.Equal(got, []api.Note{sent(65536, 16, 3, 134), acked(65536+2000+1, 16, 3)}) {
			t.Errorf("%d: %+v", missing, got)
		}
		// And what never comes is lost when its timeout is over.
		do(t, f, waits(2000000)...)
		if m := f.Mis(16); len(m) != 1 || m[0].Id < 2 {
			t.Errorf("%d: %+v", missing, m)
		}
		if l := since(f, known+all+2); len(l) != 0 {
			t.Errorf("%d: %+v", missing, l)
		}
	}
}

func TestNilField(t *testing.T) { // P31.2, P31.4
	var none *Field
	// One that was not made is none, either.
	for _, f := range []*Field{none, {}} {
		for _, x := range []api.Op{{}, op(1, 0, 0), op(-1, 0, 0), op(0, 64, 0), op(0, 0, 256), op(api.OpBacklog, 0, 9), op(api.OpJunk, 0, 0), op(8, 1, 1), op(least, least, least), op(most, most, most)} {
			if wrong := f.Do(x); wrong != api.ErrNil {
				t.Errorf("%+v: %d", x, wrong)
			}
		}
		if f.Now() != 0 || f.Notes() != nil || f.Queue() != (api.Queue{}) {
			t.Errorf("%d, %v, %v", f.Now(), f.Notes(), f.Queue())
		}
		for _, who := range []int{least, -1, 0, 1, 63, 64, most} {
			if f.Plans(who) != nil || f.Mis(who) != nil || f.Pilot(who) != (api.Pilot{}) {
				t.Errorf("%d", who)
			}
		}
	}
}

func TestOfASenderThatThereIsNot(t *testing.T) { // P31.4
	for _, many := range []int{1, 2, 64} {
		f := made(t, some(many, config.Usual(1)), way{1, 1, 0, 0})
		for _, who := range []int{least, -64, -1, many, many + 1, 64, 256, most} {
			if f.Plans(who) != nil || f.Mis(who) != nil || f.Pilot(who) != (api.Pilot{}) {
				t.Errorf("%d of %d", who, many)
			}
		}
		for _, who := range []int{0, many - 1} {
			if len(f.Plans(who)) != 1 || len(f.Mis(who)) != 1 || f.Pilot(who).Mode != 1 {
				t.Errorf("%d of %d", who, many)
			}
		}
	}
}

func TestWordForWord(t *testing.T) { // P31.1, P31.2, P31.3, P31.4
	r := random(1)
	kinds, codes := map[int]int{}, map[api.Errno]int{}
	for range 400 {
		l, w := r.configs(), r.way()
		f := made(t, l, w)
		m, wrong := modelOf(l, w.rate, w.room, w.delay, w.seed)
		never(wrong)
		known := 0
		for _, x := range script.Decode(len(l), r.bytes(150)) {
			switch r.below(20) {
			case 0:
				x.Who += r.below(len(l) + 1)
			case 1:
				x.Kind += r.below(9)
			case 2:
				x.V += r.below(200)
			}
			if got, want := f.Do(x), m.Do(x); got != want {
				t.Fatalf("%+v, %+v: %+v: %d, not %d", l, w, x, got, want)
			}
			if f.Now() != m.now || f.Queue() != m.queue || !slices.Equal(since(f, known), m.notes[known:]) {
				t.Fatalf("%+v, %+v: %+v: %d, %+v, %+v, not %d, %+v, %+v", l, w, x, f.Now(), f.Queue(), since(f, known), m.now, m.queue, m.notes[known:])
			}
			known = len(m.notes)
		}
		if !looked(f, len(l)).as(m.looked()) {
			t.Fatalf("%+v, %+v: %+v, not %+v", l, w, looked(f, len(l)), m.looked())
		}
		for _, n := range m.notes {
			kinds[n.Kind]++
			codes[n.Code]++
		}
	}
	t.Log(kinds, codes)
	if kinds[api.NoteSend] < 20000 || kinds[api.NoteAck] < 5000 || kinds[api.NoteLoss] < 1000 || kinds[api.NoteMode] < 500 || codes[api.ErrFull] < 500 || codes[api.ErrTwice] < 100 || codes[api.ErrNone] < 500 || codes[api.ErrEarly] < 500 {
		t.Errorf("%v, %v", kinds, codes)
	}
}

func TestRun(t *testing.T) { // P31.4
	r := random(2)
	for range 200 {
		l, w := r.configs(), r.way()
		b := r.bytes(100)
		b = b[:len(b)-r.below(3)]
		f := made(t, l, w)
		for _, x := range script.Decode(len(l), b) {
			do(t, f, x)
		}
		notes, wrong := Run(l, w.rate, w.room, w.delay, w.seed, b)
		if wrong != api.OK || !slices.Equal(notes, f.Notes()) {
			t.Fatalf("%+v, %+v, %q: %d, %+v, not %+v", l, w, b, wrong, notes, f.Notes())
		}
	}
}

func TestRunOfAnyBytes(t *testing.T) { // P31.4, R1
	l := usual(1, 2)
	for _, x := range []struct {
		b    string
		want []api.Note
	}{
		{"", nil},
		{"\x00", nil},
		{"\x01", []api.Note{sent(0, 0, 0, 64)}},
		{"\x01\x03", []api.Note{sent(0, 1, 0, 64)}},
		{"\x09\xff\x02\xff", []api.Note{sent(0, 1, 0, 134), turned(0, 0, 1)}},
		{"\x06\x00\xff\x07\x01\xff\x08\x00\x00\x01\x01\x01", []api.Note{unacked(0, 0, 255, api.ErrNone), turned(0, 1, 1), sent(1, 1, 0, 99)}},
	} {
		notes, wrong := Run(l, 1000000, 3000, 50, 1, x.b)
		if wrong != api.OK || !slices.Equal(notes, x.want) {
			t.Errorf("%q: %d, %+v, not %+v", x.b, wrong, notes, x.want)
		}
	}
}

// played is a random field behind a random script, of the kinds that are not left out.
func played(t *testing.T, r *random, without ...int) ([]api.Config, way, *Field) {
	t.Helper()
	l, w := r.configs(), r.way()
	f := made(t, l, w)
	for _, x := range script.Decode(len(l), r.bytes(200)) {
		if !slices.Contains(without, x.Kind) {
			do(t, f, x)
		}
	}
	return l, w, f
}

// notesOf are a sender's.
func notesOf(f *Field, who int) []api.Note {
	var l []api.Note
	for _, n := range f.Notes() {
		if n.Who == who {
			l = append(l, n)
		}
	}
	return l
}

func TestNotesAreInOrder(t *testing.T) { // P31.4, P31.5
	r := random(3)
	for range 200 {
		l, w, f := played(t, &r)
		at := 0
		next := make([]uint64, len(l))
		for _, n := range f.Notes() {
			if n.At < at || n.At > f.Now() {
				t.Fatalf("%+v, %+v: %+v behind %d", l, w, n, at)
			}
			at = n.At
			if n.Kind == api.NoteSend && n.Code == api.OK {
				if n.Seq != next[n.Who] {
					t.Fatalf("%+v, %+v: %+v, not %d", l, w, n, next[n.Who])
				}
				next[n.Who]++
			}
		}
	}
}

func TestAPacketEndsOnceAtMost(t *testing.T) { // P31.5, T5
	r := random(4)
	ended := 0
	for range 300 {
		l, w, f := played(t, &r)
		for who := range l {
			on, over := map[uint64]api.Note{}, map[uint64]bool{}
			for _, n := range notesOf(f, who) {
				was, is := on[n.Seq]
				switch {
				case n.Kind == api.NoteSend && n.Code == api.OK:
					on[n.Seq] = n
				case n.Kind != api.NoteAck && n.Kind != api.NoteLoss:
				case n.Code == api.ErrTwice:
					if !is || !over[n.Seq] && n.At-was.At < l[who].Timeout {
						t.Fatalf("%+v, %+v: %+v", l[who], w, n)
					}
				case n.Code == api.ErrNone:
					if is {
						t.Fatalf("%+v, %+v: %+v", l[who], w, n)
					}
				case !is || over[n.Seq]:
					t.Fatalf("%+v, %+v: %+v", l[who], w, n)
				default:
					over[n.Seq] = true
					ended++
					least := 2*w.delay + 1
					if n.Kind == api.NoteAck {
						least = 2*w.delay + (was.N*part+w.rate-1)/w.rate
					}
					if n.At-was.At < least || n.Kind == api.NoteLoss && n.At-was.At != least || n.At-was.At >= l[who].Timeout {
						t.Fatalf("%+v, %+v: %+v of %+v", l[who], w, n, was)
					}
				}
			}
		}
	}
	if ended < 5000 {
		t.Errorf("%d", ended)
	}
}

// given tells how many parts of bytes the rates of plans give up to a time.
func given(l []api.Plan, at int) int {
	sum := 0
	for _, p := range l {
		if p.From < at {
			sum += p.Rate * (min(p.End, at) - p.From)
		}
	}
	return sum
}

func TestNoMoreIsSentThanRatesGive(t *testing.T) { // P31.5, T6
	r := random(5)
	whole := 0
	for range 200 {
		l, w, f := played(t, &r)
		for who, c := range l {
			plans := f.Plans(who)
			// From any packet on: by how much more was given than sent ahead of it, at most.
			sum, ahead := 0, least
			for _, n := range notesOf(f, who) {
				if n.Kind != api.NoteSend || n.Code != api.OK {
					continue
				}
				g := given(plans, n.At)
				ahead = max(ahead, g-sum)
				sum += n.N * part
				burst := sum - g + ahead
				if burst > c.Burst*part {
					t.Fatalf("%+v, %+v: %+v: %d", c, w, n, burst)
				}
				if burst > c.Burst*part-64*part {
					whole++
				}
			}
		}
	}
	if whole < 100 {
		t.Errorf("%d", whole)
	}
}

func TestRatesAreWithinTheBounds(t *testing.T) { // T2
	r := random(6)
	for range 200 {
		l, w, f := played(t, &r)
		for who, c := range l {
			at := 0
			for i, p := range f.Plans(who) {
				if p.Rate < c.MinRate || p.Rate > c.MaxRate || p.From != at || p.End < at+c.MiMin {
					t.Fatalf("%+v, %+v: %d: %+v", c, w, i, p)
				}
				at = p.End
			}
			if at <= f.Now() {
				t.Fatalf("%+v, %+v: %d of %d", c, w, at, f.Now())
			}
		}
	}
}

// alone is a sender to which the same comes as what notes tell, and nothing else, and the notes of that.
func alone(t *testing.T, c api.Config, s api.Source, l []api.Note, till int) (face, []api.Note) {
	t.Helper()
	x, wrong := sender.New(c, 0, 0, s)
	never(wrong)
	goOn := func(at int) {
		for x.Now() < at {
			never(x.Advance(min(at, x.Now()+1000000)))
		}
	}
	var notes []api.Note
	for _, n := range l {
		goOn(n.At)
		switch n.Kind {
		case api.NoteSend:
			n.Seq, n.Code = x.Send(n.N)
		case api.NoteAck:
			_, n.Code = x.Ack(n.Seq)
		case api.NoteLoss:
			_, n.Code = x.Lose(n.Seq)
		case api.NoteMode:
			n.Code = x.Switch(n.N)
		}
		notes = append(notes, n)
	}
	goOn(till)
	return face{x.Plans(), x.Mis(), x.Pilot()}, notes
}

func TestASenderGoesByWhatComesToItAlone(t *testing.T) { // T2
	r := random(7)
	for range 300 {
		l, w, f := played(t, &r)
		for who, c := range l {
			notes := notesOf(f, who)
			x, same := alone(t, c, draw.Pcg(w.seed, uint64(who)), notes, f.Now())
			if !slices.Equal(same, notes) || !x.as(faceOf(f, who)) {
				t.Fatalf("%d of %+v, %+v: %+v, not %+v", who, l, w, x, faceOf(f, who))
			}
		}
	}
}

func TestAWayWithRoomForAllKeepsSendersApart(t *testing.T) { // T2
	// Where packets go through at once, it makes no difference what the others do.
	r := random(8)
	for range 50 {
		l := []api.Config{r.config(), r.config(), r.config()}
		steps := script.Decode(3, r.bytes(200))
		f, g := made(t, l, way{1000000000, 1 << 30, 300, 5}), made(t, l, way{1000000000, 1 << 30, 300, 5})
		for _, x := range steps {
			if x.Kind == api.OpBacklog {
				x.V = min(x.V, 1)
			}
			if x.Kind == api.OpSend {
				x.V = 0
			}
			do(t, f, x)
			if x.Who == 1 || x.Kind == api.OpWait {
				do(t, g, x)
			}
			// Time for each packet to be through.
			do(t, f, op(api.OpWait, 0, 3))
			do(t, g, op(api.OpWait, 0, 3))
		}
		if !slices.Equal(notesOf(f, 1), notesOf(g, 1)) || !faceOf(f, 1).as(faceOf(g, 1)) {
			t.Fatalf("%+v: %+v, not %+v", l, notesOf(f, 1), notesOf(g, 1))
		}
	}
}

// oneQueue tells what comes of packets that are sent, by one queue that goes byte by byte, first come, first served: at which times they leave, or that they are lost.
func oneQueue(w way, l []api.Note) []api.Fate {
	var fates []api.Fate
	at, work := 0, 0
	for _, n := range l {
		if n.Kind != api.NoteSend || n.Code != api.OK {
			continue
		}
		work = max(0, work-w.rate*(n.At-at))
		at = n.At
		if work+n.N*part > w.room*part {
			fates = append(fates, api.Fate{Lost: true})
			continue
		}
		work += n.N * part
		leaves := at + work/w.rate
		if work%w.rate > 0 {
			leaves++
		}
		fates = append(fates, api.Fate{Leaves: leaves})
	}
	return fates
}

func TestNotesTellTheTimesOfOneQueue(t *testing.T) { // T3, P31.3
	r := random(9)
	lost, through := 0, 0
	for range 300 {
		_, w, f := played(t, &r, api.OpLose, api.OpLate, api.OpTwice, api.OpJunk)
		fates := oneQueue(w, f.Notes())
		var want, got []api.Note
		i, last := 0, 0
		for _, n := range f.Notes() {
			switch {
			case n.Kind == api.NoteSend && n.Code == api.OK:
				e := api.Note{At: fates[i].Leaves + 2*w.delay, Who: n.Who, Kind: api.NoteAck, Seq: n.Seq}
				if fates[i].Lost {
					e.Kind, e.At = api.NoteLoss, n.At+2*w.delay+1
					lost++
				} else if through++; fates[i].Leaves < last {
					t.Fatalf("%+v: %+v ahead of %d", w, fates[i], last)
				} else {
					last = fates[i].Leaves
				}
				if e.At <= f.Now() {
					want = append(want, e)
				}
				i++
			case n.Kind == api.NoteAck || n.Kind == api.NoteLoss:
				n.Code = api.OK // it may have come too late
				got = append(got, n)
			}
		}
		slices.SortStableFunc(want, func(x, y api.Note) int { return x.At - y.At })
		if !slices.Equal(got, want) {
			t.Fatalf("%+v: %+v, not %+v", w, got, want)
		}
	}
	if lost < 500 || through < 5000 {
		t.Errorf("%d, %d", lost, through)
	}
}

func TestWhatIsToBeLostTakesNoRoom(t *testing.T) { // T3, P31.3
	// With them, and without them, all others leave at the same times.
	for _, w := range []way{{1000000, 5000, 100, 1}, {3000000, 9000, 0, 2}} {
		f, g := made(t, some(2, steady(1000000, 2000000)), w), made(t, some(2, steady(1000000, 2000000)), w)
		for n := range 100 {
			do(t, f, op(api.OpSend, 0, n), op(api.OpLose, 1, 1), op(api.OpSend, 1, 200), op(api.OpSend, 1, n), op(api.OpWait, 0, 30))
			do(t, g, op(api.OpSend, 0, n), op(api.OpWait, 0, 30))
		}
		if !slices.Equal(notesOf(f, 0), notesOf(g, 0)) || f.Queue() != g.Queue() || len(fatesOf(f, 1)) != 200 {
			t.Errorf("%+v: %+v, not %+v", w, notesOf(f, 0), notesOf(g, 0))
		}
	}
}

// accounts are those of a sender's plans, by its notes alone.
func accounts(c api.Config, plans []api.Plan, l []api.Note, now int) []api.Mi {
	var told []api.Mi
	for i, p := range plans {
		told = append(told, api.Mi{Id: i, From: p.From, To: p.End})
	}
	told[len(told)-1].To = -1
	on := map[uint64]api.Note{}
	of := func(at int) *api.Mi {
		i := len(plans) - 1
		for plans[i].From > at {
			i--
		}
		return &told[i]
	}
	for _, n := range l {
		if n.Code != api.OK {
			continue
		}
		p := on[n.Seq]
		m := of(p.At)
		switch n.Kind {
		case api.NoteSend:
			on[n.Seq] = n
			m = of(n.At)
			m.Packets, m.Sent = m.Packets+1, m.Sent+n.N
		case api.NoteAck:
			delete(on, n.Seq)
			m.Hits, m.Acked = m.Hits+1, m.Acked+p.N
			if x, y := p.At-m.From, n.At-p.At; m.N < 1024 {
				m.N, m.SumT, m.SumR, m.SumTT, m.SumTR, m.SumRR = m.N+1, m.SumT+x, m.SumR+y, m.SumTT+x*x, m.SumTR+x*y, m.SumRR+y*y
			}
		case api.NoteLoss:
			delete(on, n.Seq)
			m.Drops, m.Lost = m.Drops+1, m.Lost+p.N
		}
	}
	for _, p := range on {
		if now-p.At >= c.Timeout {
			m := of(p.At)
			m.Drops, m.Lost = m.Drops+1, m.Lost+p.N
		}
	}
	return told
}

func TestAccountsAreWhatTheNotesTell(t *testing.T) { // T5, P31.4
	r := random(10)
	packets, expired := 0, 0
	for range 300 {
		l, w, f := played(t, &r)
		for who, c := range l {
			plans, mis := f.Plans(who), f.Mis(who)
			want := accounts(c, plans, notesOf(f, who), f.Now())
			first := len(want) - len(mis)
			if first < 0 || !slices.Equal(mis, want[first:]) {
				t.Fatalf("%d of %+v, %+v: %+v, not %+v", who, l, w, mis, want)
			}
			// All that were taken are done.
			for _, m := range want[:first] {
				if m.Hits+m.Drops != m.Packets || m.Acked+m.Lost != m.Sent {
					t.Fatalf("%d of %+v, %+v: %+v", who, l, w, m)
				}
			}
			for _, m := range want {
				packets += m.Packets
				expired += m.Drops
			}
			for _, kind := range fatesOf(f, who) {
				if kind == api.NoteLoss {
					expired--
				}
			}
		}
	}
	if packets < 10000 || expired < 1000 {
		t.Errorf("%d, %d", packets, expired)
	}
}

func TestTheSameScriptGivesTheSame(t *testing.T) { // P31.5
	r := random(11)
	for range 100 {
		l, w := r.configs(), r.way()
		b := r.bytes(150)
		x, wrong := Run(l, w.rate, w.room, w.delay, w.seed, b)
		never(wrong)
		f, g := made(t, l, w), made(t, l, w)
		for _, s := range script.Decode(len(l), b) {
			do(t, f, s)
			do(t, g, s)
		}
		y, wrong := Run(l, w.rate, w.room, w.delay, w.seed, b)
		never(wrong)
		if !slices.Equal(x, y) || !slices.Equal(x, f.Notes()) || !looked(f, len(l)).as(looked(g, len(l))) {
			t.Fatalf("%+v, %+v", l, w)
		}
	}
	// By another seed the intervals are others.
	c := config.Usual(api.Vivace)
	f, g := made(t, some(1, c), way{1000, 1000, 0, 1}), made(t, some(1, c), way{1000, 1000, 0, 2})
	if f.Plans(0)[0] == g.Plans(0)[0] {
		t.Errorf("%+v", f.Plans(0)[0])
	}
}

func TestWhatIsHandedInStays(t *testing.T) { // R2
	l := []api.Config{config.Usual(api.Vivace), steady(1000, 20000), config.Usual(api.Allegro)}
	was := slices.Clone(l)
	w := way{1000000, 9000, 100, 1}
	f, g := made(t, l, w), made(t, l, w)
	b := "\x02\x01\x03\x00\x00\x80\x07\x02\x03\x00\x00\xff"
	if _, wrong := Run(l, w.rate, w.room, w.delay, w.seed, b); wrong != api.OK || !slices.Equal(l, was) {
		t.Fatalf("%d: %+v", wrong, l)
	}
	steps := script.Decode(3, b+b+b)
	for i, x := range steps {
		if i == 5 {
			// Nor does what becomes of it reach a field that was made of it.
			for i := range l {
				l[i] = api.Config{Packet: 9000}
			}
		}
		do(t, f, x)
	}
	for _, x := range steps {
		do(t, g, x)
	}
	if !looked(f, 3).as(looked(g, 3)) {
		t.Errorf("%+v, not %+v", looked(f, 3), looked(g, 3))
	}
	m, _ := modelOf(was, w.rate, w.room, w.delay, w.seed)
	for _, x := range steps {
		never(m.Do(x))
	}
	if !looked(f, 3).as(m.looked()) {
		t.Errorf("%+v, not %+v", looked(f, 3), m.looked())
	}
}

func TestWhatCameOutStays(t *testing.T) { // R2
	f := made(t, some(2, steady(1000, 20000)), way{1000000, 9000, 100, 1})
	do(t, f, op(api.OpBacklog, 1, 3), op(api.OpWait, 0, 50), op(api.OpSend, 1, 1))
	notes, plans, mis := f.Notes(), f.Plans(1), f.Mis(1)
	was := []any{slices.Clone(notes), slices.Clone(plans), slices.Clone(mis)}
	same := func() bool {
		return slices.Equal(notes, was[0].([]api.Note)) && slices.Equal(plans, was[1].([]api.Plan)) && slices.Equal(mis, was[2].([]api.Mi))
	}
	do(t, f, op(api.OpSend, 0, 1), op(api.OpWait, 0, 100), op(api.OpMode, 1, 0), op(api.OpJunk, 1, 0))
	if !same() {
		t.Errorf("%+v, %+v, %+v", notes, plans, mis)
	}
	// Nor are they the field's own.
	is := looked(f, 2)
	for range 2 {
		n, p, m := f.Notes(), f.Plans(1), f.Mis(1)
		for i := range n {
			n[i] = api.Note{At: -1}
		}
		for i := range p {
			p[i] = api.Plan{End: -1}
		}
		for i := range m {
			m[i] = api.Mi{Packets: 9}
		}
		_ = append(f.Notes()[:1], api.Note{At: 7})
		_ = append(f.Notes(), api.Note{At: 7})
		if !looked(f, 2).as(is) {
			t.Fatalf("%+v, not %+v", looked(f, 2), is)
		}
	}
	n := f.Notes()
	do(t, f, op(api.OpSend, 0, 1))
	_ = append(n, api.Note{At: 7})
	if l := f.Notes(); l[len(l)-1] != sent(12802, 0, 1, 99) {
		t.Errorf("%+v", l[len(l)-1])
	}
	if !same() {
		t.Errorf("%+v, %+v, %+v", notes, plans, mis)
	}
}

func TestTwoFieldsAreApart(t *testing.T) { // R2
	r := random(12)
	for range 50 {
		l, w := r.configs(), r.way()
		steps, others := script.Decode(len(l), r.bytes(100)), script.Decode(len(l), r.bytes(100))
		f, g, h := made(t, l, w), made(t, l, w), made(t, l, w)
		for i, x := range steps {
			do(t, f, x)
			do(t, h, others[i])
		}
		for _, x := range steps {
			do(t, g, x)
		}
		if !looked(f, len(l)).as(looked(g, len(l))) {
			t.Fatalf("%+v, %+v", l, w)
		}
	}
}
