package sender

import (
	"math"
	"slices"
	"testing"

	"pacemaker/api"
	"pacemaker/books"
	"pacemaker/config"
	"pacemaker/credit"
	"pacemaker/draw"
	"pacemaker/modes"
	"pacemaker/spans"
	"pacemaker/stats"
)

const (
	end      = math.MaxUint64
	most     = math.MaxInt
	least    = math.MinInt
	lastTime = 549755813888
	jump     = 1000000
	part     = 1000000 // of a byte, in a credit
)

func tape(l ...uint64) api.Source { return draw.Tape(l) }

// steady is a usual config, but with intervals of one length, and a great burst.
func steady(mode, length, timeout int) api.Config {
	c := config.Usual(mode)
	c.MiMin, c.MiMax, c.Timeout, c.Burst = length, length, timeout, 1048576
	return c
}

// made is a sender that can be made.
func made(t *testing.T, c api.Config, first uint64, at int, s api.Source) *Sender {
	t.Helper()
	x, wrong := New(c, first, at, s)
	if x == nil || wrong != api.OK {
		t.Fatalf("%+v, %d at %d: %d", c, first, at, wrong)
	}
	return x
}

// advances goes on to times that it can go on to.
func advances(t *testing.T, x *Sender, ats ...int) {
	t.Helper()
	for _, at := range ats {
		if wrong := x.Advance(at); wrong != api.OK || x.Now() != at || x.Credit().At != at {
			t.Fatalf("to %d: %d, at %d", at, wrong, x.Now())
		}
	}
}

// sends sends packets of one size that can be sent.
func sends(t *testing.T, x *Sender, size int, seqs ...uint64) {
	t.Helper()
	for _, seq := range seqs {
		had := x.Credit().Have
		if n, wrong := x.Send(size); n != seq || wrong != api.OK || x.Credit().Have != had-size*part {
			t.Fatalf("%d of %d: %d, %d, %d", seq, size, n, wrong, x.Credit().Have)
		}
	}
}

// ends acks or loses packets that are on their way.
func ends(t *testing.T, how func(uint64) (api.Pkt, api.Errno), pkts ...api.Pkt) {
	t.Helper()
	for _, pkt := range pkts {
		if p, wrong := how(pkt.Seq); p != pkt || wrong != api.OK {
			t.Fatalf("%v: %v, %d", pkt, p, wrong)
		}
	}
}

// look is all that a sender tells of itself.
type look struct {
	now, rate int
	waits     [9]int
	pilot     api.Pilot
	credit    api.Credit
	plans     []api.Plan
	mis       []api.Mi
}

func sizes() [9]int { return [9]int{least, -1, 0, 1, 64, 1500, 9000, 1 << 40, most} }

func looked(x *Sender) look {
	l := look{now: x.Now(), rate: x.Rate(), pilot: x.Pilot(), credit: x.Credit(), plans: x.Plans(), mis: x.Mis()}
	for i, size := range sizes() {
		l.waits[i] = x.Wait(size)
	}
	return l
}

func (l look) as(k look) bool {
	return l.now == k.now && l.rate == k.rate && l.waits == k.waits && l.pilot == k.pilot && l.credit == k.credit && slices.Equal(l.plans, k.plans) && slices.Equal(l.mis, k.mis)
}

// refusals tells what refuses calls, and fails where one of them leaves something.
func refusals(t *testing.T, x *Sender, calls ...func() (bool, api.Errno)) []api.Errno {
	t.Helper()
	was := looked(x)
	var l []api.Errno
	for i, call := range calls {
		empty, wrong := call()
		if !empty || wrong == api.OK || !looked(x).as(was) {
			t.Fatalf("call %d: %t, %d: %+v, not %+v", i, empty, wrong, looked(x), was)
		}
		l = append(l, wrong)
	}
	return l
}

func sending(x *Sender, size int) func() (bool, api.Errno) {
	return func() (bool, api.Errno) {
		n, wrong := x.Send(size)
		return n == 0, wrong
	}
}

func ending(how func(uint64) (api.Pkt, api.Errno), seq uint64) func() (bool, api.Errno) {
	return func() (bool, api.Errno) {
		p, wrong := how(seq)
		return p == (api.Pkt{}), wrong
	}
}

func advancing(x *Sender, at int) func() (bool, api.Errno) {
	return func() (bool, api.Errno) { return true, x.Advance(at) }
}

func switching(x *Sender, mode int) func() (bool, api.Errno) {
	return func() (bool, api.Errno) { return true, x.Switch(mode) }
}

// refuses fails where one of the calls is refused by something else than wrong.
func refuses(t *testing.T, x *Sender, wrong api.Errno, calls ...func() (bool, api.Errno)) {
	t.Helper()
	for i, got := range refusals(t, x, calls...) {
		if got != wrong {
			t.Fatalf("call %d: %d, not %d", i, got, wrong)
		}
	}
}

// asked is what layer 26 tells of the next interval of a pilot, from a time on.
func asked(t *testing.T, c api.Config, x api.Pilot, at int, s api.Source) (api.Plan, api.Pilot, api.Source) {
	t.Helper()
	p, x, s, wrong := spans.Next(c, x, at, s)
	if wrong != api.OK {
		t.Fatalf("%+v at %d: %d", x, at, wrong)
	}
	return p, x, s
}

// told is a pilot that was told of an interval.
func told(t *testing.T, c api.Config, x api.Pilot, m api.Mi) api.Pilot {
	t.Helper()
	of, wrong := stats.Of(m)
	if wrong == api.OK {
		x, _, wrong = modes.Tell(c, x, of, api.Source{})
	}
	if wrong != api.OK {
		t.Fatalf("%+v, %+v: %d", x, m, wrong)
	}
	return x
}

// wants are which plans are wanted, and gens of which rounds they are.
func wants(l []api.Plan) []bool {
	var w []bool
	for _, p := range l {
		w = append(w, p.Wanted)
	}
	return w
}

func gens(l []api.Plan) []int {
	var g []int
	for _, p := range l {
		g = append(g, p.Gen)
	}
	return g
}

func rates(l []api.Plan) []int {
	var r []int
	for _, p := range l {
		r = append(r, p.Rate)
	}
	return r
}

// model is a sender by the chapter, word for word. It panics where something is refused that the chapter has no word for.
type model struct {
	c                     api.Config
	b                     *books.Books
	x                     api.Pilot
	credit                api.Credit
	s                     api.Source
	now                   int
	plans                 []api.Plan
	told, skipped, longer int
}

func never(wrong api.Errno) {
	if wrong != api.OK {
		panic(int(wrong))
	}
}

func modelOf(c api.Config, first uint64, at int, s api.Source) (*model, api.Errno) {
	x, wrong := modes.New(c)
	if wrong != api.OK {
		return nil, wrong
	}
	if at < 0 || at > 549755813888 {
		return nil, api.ErrSpan
	}
	m := &model{c: c, now: at}
	m.b, wrong = books.New(c.Ring, first, c.Timeout)
	never(wrong)
	_, wrong = m.b.Begin(at)
	never(wrong)
	m.credit, wrong = credit.New(c.Burst, at)
	never(wrong)
	p, x, s, wrong := spans.Next(c, x, at, s)
	never(wrong)
	m.plans, m.x, m.s = []api.Plan{p}, x, s
	return m, api.OK
}

func (m *model) settle() {
	for {
		i, done := m.b.Take()
		if !done {
			return
		}
		if !spans.Counts(m.plans[i.Id], m.x) {
			continue
		}
		var wrong api.Errno
		if i.Packets == 0 {
			m.x, wrong = modes.Skip(m.x)
			never(wrong)
			m.skipped++
			continue
		}
		of, wrong := stats.Of(i)
		never(wrong)
		m.x, m.s, wrong = modes.Tell(m.c, m.x, of, m.s)
		never(wrong)
		m.told++
	}
}

// reach is what is done at each time that is reached, at so many bytes a second.
func (m *model) reach(rate, at int) {
	var wrong api.Errno
	m.credit, wrong = credit.Fill(m.c.Burst, m.credit, rate, at)
	never(wrong)
	_, wrong = m.b.Expire(at)
	never(wrong)
	m.settle()
}

func (m *model) Advance(at int) api.Errno {
	if at < 0 || at > 549755813888 || at < m.now || at > m.now+1000000 {
		return api.ErrSpan
	}
	for m.plans[len(m.plans)-1].End <= at {
		i := len(m.plans) - 1
		t := m.plans[i].End
		m.reach(m.plans[i].Rate, t)
		var wrong api.Errno
		if len(m.b.Mis()) == 64 {
			m.plans[i], m.s, wrong = spans.Longer(m.c, m.plans[i], m.s)
			never(wrong)
			m.longer++
			continue
		}
		_, wrong = m.b.Begin(t)
		never(wrong)
		var p api.Plan
		p, m.x, m.s, wrong = spans.Next(m.c, m.x, t, m.s)
		never(wrong)
		m.plans = append(m.plans, p)
	}
	m.reach(m.plans[len(m.plans)-1].Rate, at)
	m.now = at
	return api.OK
}

func (m *model) Send(size int) (uint64, api.Errno) {
	left, wrong := credit.Take(m.c.Burst, m.credit, size)
	if wrong != api.OK {
		return 0, wrong
	}
	n, wrong := m.b.Send(size, m.now)
	if wrong == api.OK {
		m.credit = left
	}
	return n, wrong
}

func (m *model) Ack(seq uint64) (api.Pkt, api.Errno) {
	p, wrong := m.b.Ack(seq, m.now)
	if wrong == api.OK {
		m.settle()
	}
	return p, wrong
}

func (m *model) Lose(seq uint64) (api.Pkt, api.Errno) {
	p, wrong := m.b.Lose(seq, m.now)
	if wrong == api.OK {
		m.settle()
	}
	return p, wrong
}

func (m *model) Switch(mode int) api.Errno {
	x, s, wrong := modes.Switch(m.c, m.x, mode, m.s)
	if wrong == api.OK {
		m.x, m.s = x, s
	}
	return wrong
}

func (m *model) looked() look {
	l := look{now: m.now, rate: m.plans[len(m.plans)-1].Rate, pilot: m.x, credit: m.credit, plans: m.plans, mis: m.b.Mis()}
	for i, size := range sizes() {
		l.waits[i] = credit.Wait(m.credit, l.rate, size)
	}
	return l
}

// random makes the same numbers at each run.
type random uint64

func (r *random) below(n int) int {
	*r = *r*6364136223846793005 + 1442695040888963407
	return int(uint64(*r)>>33) % n
}

// upTo is 0 to n, small ones as often as great ones.
func (r *random) upTo(n int) int { return r.below(n+1) >> r.below(32) }

// any is any int, small or great, of both signs.
func (r *random) any() int {
	n := (r.below(1<<31)<<32 | r.below(1<<31)<<1 | r.below(2)) >> r.below(63)
	if r.below(2) == 0 {
		return ^n
	}
	return n
}

func (r *random) source() api.Source {
	switch r.below(4) {
	case 0:
		return api.Source{Kind: r.below(4)}
	case 1:
		return tape(uint64(r.any()), uint64(r.any()), uint64(r.any()), uint64(r.any()))
	}
	return draw.Pcg(uint64(r.any()), uint64(r.any()))
}

// config is a right one, with rates, sizes, spans and steps of all kinds.
func (r *random) config() api.Config {
	c := config.Usual(1 + r.below(5))
	c.MinRate = 1000 + r.upTo(1000000000-1000)
	c.MaxRate = c.MinRate + r.upTo(1000000000-c.MinRate)
	c.StartRate = c.MinRate + r.upTo(c.MaxRate-c.MinRate)
	c.Packet = 64 + r.upTo(9000-64)
	c.Burst = c.Packet + r.upTo(1048576-c.Packet)
	c.Ring = 1 + r.upTo(4095)
	c.MiMin = 1000 + r.upTo(100000)
	c.MiMax = c.MiMin + r.upTo(200000)
	c.Timeout = c.MiMax + r.upTo(60000000-c.MiMax)
	c.Steps = 1 + r.below(16)
	c.Eps = 1 + r.upTo(min(262144, 524288/c.Steps)-1)
	c.Omega = 1 + r.upTo(524287)
	c.Widen = r.upTo(524288)
	return c
}

// first is any number, or near the last one.
func (r *random) first() uint64 {
	if r.below(4) == 0 {
		return end - uint64(r.below(20))
	}
	return uint64(r.any())
}

// step is one call of any kind, and what came of it.
type step struct {
	kind  int
	n     int
	seq   uint64
	pkt   api.Pkt
	wrong api.Errno
}

const (
	advance = iota
	send
	ack
	lose
	turn
)

// call is a call of any kind, by what a sender is at: most can be done, some can't.
func (r *random) call(x *Sender, c api.Config, next uint64) step {
	switch k := r.below(24); {
	case k < 7:
		return step{kind: advance, n: x.Now() + r.upTo(3*c.MiMax)%(jump+1)}
	case k == 7:
		return step{kind: advance, n: x.Plans()[len(x.Plans())-1].End - r.below(2)}
	case k == 8:
		return step{kind: advance, n: x.Now() + min(jump, x.Wait(c.Packet))}
	case k == 9 && r.below(3) == 0:
		return step{kind: advance, n: []int{r.any(), x.Now() - 1 - r.below(9), x.Now() + jump + 1, x.Now() + jump}[r.below(4)]}
	case k < 15:
		return step{kind: send, n: 1 + r.upTo(c.Packet-1)}
	case k == 15:
		return step{kind: send, n: []int{r.any(), 0, 9001, 9000}[r.below(4)]}
	case k < 20:
		return step{kind: ack, seq: next - 1 - uint64(r.upTo(30))}
	case k == 20:
		return step{kind: lose, seq: next - 1 - uint64(r.upTo(30))}
	case k == 21:
		return step{kind: ack + r.below(2), seq: []uint64{next, next + 1, uint64(r.any()), end}[r.below(4)]}
	case k == 22 && r.below(3) == 0:
		return step{kind: turn, n: r.below(7)}
	}
	return step{kind: advance, n: x.Now() + r.below(c.MiMax)}
}

// calls are those of a sender that change it, and of its model.
type calls interface {
	Advance(at int) api.Errno
	Send(size int) (uint64, api.Errno)
	Ack(seq uint64) (api.Pkt, api.Errno)
	Lose(seq uint64) (api.Pkt, api.Errno)
	Switch(mode int) api.Errno
}

// does does a call.
func (s step) does(x calls) step {
	switch s.kind {
	case advance:
		s.wrong = x.Advance(s.n)
	case send:
		s.seq, s.wrong = x.Send(s.n)
	case ack:
		s.pkt, s.wrong = x.Ack(s.seq)
	case lose:
		s.pkt, s.wrong = x.Lose(s.seq)
	case turn:
		s.wrong = x.Switch(s.n)
	}
	return s
}

// walk does so many calls on a sender, and tells each of them, with what came of it.
func (r *random) walk(x *Sender, c api.Config, first uint64, calls int, tell func(s step)) {
	next := first
	for range calls {
		s := r.call(x, c, next).does(x)
		if s.kind == send && s.wrong == api.OK {
			next++
		}
		tell(s)
	}
}

func TestNew(t *testing.T) { // P27.1
	for _, mode := range []int{1, 2, 3, 4, 5} {
		for _, at := range []int{0, 1, 100, 1 << 38, lastTime - 1, lastTime} {
			c := config.Usual(mode)
			c.StartRate, c.Burst = 70000, 3001
			x := made(t, c, 9, at, tape(7, 8))
			begun, _ := modes.New(c)
			plan, then, _ := asked(t, c, begun, at, tape(7, 8))
			want := look{now: at, rate: 70000, pilot: then, credit: api.Credit{At: at, Have: 3001000000}, plans: []api.Plan{{From: at, End: at + 10007, Rate: 70000, Wanted: true}}, mis: []api.Mi{{From: at, To: -1}}}
			for i, size := range sizes() {
				want.waits[i] = credit.Wait(want.credit, 70000, size)
			}
			if l := looked(x); !l.as(want) || plan != want.plans[0] || then.S.Asked+then.C.Asked != 1 {
				t.Errorf("%d at %d: %+v, not %+v", mode, at, l, want)
			}
		}
	}
}

func TestNewGoesOnFromTheSourceBehind(t *testing.T) { // P27.1, P27.2
	c := config.Usual(api.Vivace)
	x := made(t, c, 0, 0, tape(1, 2, 3, 4))
	advances(t, x, 10001+10002+10003+10004, 150000)
	var spans []int
	for _, p := range x.Plans()[:5] {
		spans = append(spans, p.End-p.From)
	}
	if !slices.Equal(spans, []int{10001, 10002, 10003, 10004, 10000}) {
		t.Errorf("%v", spans)
	}
}

func TestNewWhatIsRefused(t *testing.T) { // P27.1
	bad := func(change func(c *api.Config)) api.Config {
		c := config.Usual(api.Hybrid)
		change(&c)
		return c
	}
	times := []int{0, 5, lastTime, -1, lastTime + 1, 1 << 40, 1 << 62, least, most}
	for _, at := range times {
		for _, x := range []struct {
			c     api.Config
			wrong api.Errno
		}{
			{bad(func(c *api.Config) { c.Mode = 6 }), api.ErrMode},
			{bad(func(c *api.Config) { c.MinRate = 999 }), api.ErrRate},
			{bad(func(c *api.Config) { c.Ring = 0 }), api.ErrSize},
			{bad(func(c *api.Config) { c.Ring = 4097 }), api.ErrSize},
			{bad(func(c *api.Config) { c.Burst = 1048577 }), api.ErrSize},
			{bad(func(c *api.Config) { c.MiMin = 999 }), api.ErrSpan},
			{bad(func(c *api.Config) { c.Timeout = 60000001 }), api.ErrSpan},
			{bad(func(c *api.Config) { c.Steps = 17 }), api.ErrStep},
			{bad(func(c *api.Config) { c.Gain = 0 }), api.ErrGain},
			{api.Config{}, api.ErrMode},
		} { // ahead of the time
			if y, wrong := New(x.c, 0, at, tape(1)); y != nil || wrong != x.wrong {
				t.Errorf("%+v at %d: %v, %d", x.c, at, y, wrong)
			}
		}
		for _, mode := range []int{1, 2, 3, 4, 5} {
			y, wrong := New(config.Usual(mode), end, at, api.Source{})
			if isTime := at >= 0 && at <= lastTime; (y != nil) != isTime || (wrong == api.OK) != isTime || !isTime && wrong != api.ErrSpan {
				t.Errorf("%d at %d: %v, %d", mode, at, y, wrong)
			}
		}
	}
}

func TestFirstNumbers(t *testing.T) { // P27.1, P27.3
	c := steady(api.Vivace, 10000, 20000)
	for _, first := range []uint64{0, 1, 5, 1 << 63, end - 9} {
		x := made(t, c, first, 0, api.Source{})
		refuses(t, x, api.ErrNone, ending(x.Ack, first), ending(x.Lose, first), ending(x.Ack, first-1))
		sends(t, x, 1, first, first+1, first+2)
		advances(t, x, 10000)
		sends(t, x, 1, first+3)
		refuses(t, x, api.ErrNone, ending(x.Ack, first+4), ending(x.Lose, first-1))
	}
	for _, first := range []uint64{end - 1, end} { // the last number is never sent
		x := made(t, c, first, 0, api.Source{})
		for seq := first; seq != end; seq++ {
			sends(t, x, 1, seq)
		}
		refuses(t, x, api.ErrShut, sending(x, 1), sending(x, 9000))
		refuses(t, x, api.ErrSize, sending(x, 0))
	}
}

func TestWhatTheConfigTells(t *testing.T) { // P27.1
	c := steady(api.Vivace, 1000, 5000)
	c.Ring, c.Burst = 3, 2000
	x := made(t, c, 0, 0, api.Source{})
	sends(t, x, 10, 0, 1, 2)
	refuses(t, x, api.ErrFull, sending(x, 10), sending(x, 1970))
	refuses(t, x, api.ErrEarly, sending(x, 1971))
	advances(t, x, 4999)
	refuses(t, x, api.ErrFull, sending(x, 10))
	advances(t, x, 5000) // they are over
	refuses(t, x, api.ErrTwice, ending(x.Ack, 0), ending(x.Lose, 2))
	sends(t, x, 10, 3, 4, 5)
}

func TestTheChaptersExample(t *testing.T) { // P27.1, P27.2, P27.3, P27.4
	c := config.Usual(api.Allegro)
	x := made(t, c, 5, 100, tape(0, 10, 20, 2, 30))
	sends(t, x, 1500, 5, 6, 7, 8, 9, 10, 11, 12, 13, 14)
	refuses(t, x, api.ErrEarly, sending(x, 1500), sending(x, 1))
	if x.Wait(1500) != 30000 || x.Wait(1) != 20 || x.Wait(15000) != 300000 || x.Wait(15001) != 300020 {
		t.Errorf("%d", x.Wait(1500))
	}
	advances(t, x, 10099, 10100)
	if l := x.Mis(); !slices.Equal(l, []api.Mi{{From: 100, To: 10100, Sent: 15000, Packets: 10}, {Id: 1, From: 10100, To: -1}}) {
		t.Errorf("%+v", l)
	}
	for seq := range uint64(10) {
		ends(t, x.Ack, api.Pkt{Seq: 5 + seq, Size: 1500, Sent: 100})
	}
	if l, p := x.Mis(), x.Pilot(); len(l) != 1 || p.S.Start.Rate != 100000 || p.S.Start.N != 1 {
		t.Errorf("%+v, %+v", l, p)
	}
	// The rate is that of the plan, until the next interval begins.
	if x.Rate() != 50000 {
		t.Errorf("%d", x.Rate())
	}
	advances(t, x, 20110)
	want := []api.Plan{{From: 100, End: 10100, Rate: 50000, Wanted: true}, {From: 10100, End: 20110, Rate: 50000}, {From: 20110, End: 30130, Rate: 100000, Wanted: true}}
	if !slices.Equal(x.Plans(), want) || x.Rate() != 100000 {
		t.Errorf("%+v", x.Plans())
	}
	if wrong := x.Switch(api.ProteusS); wrong != api.OK || x.Rate() != 100000 || x.Pilot().Gen != 1 || x.Pilot().C.Rate != 100000 {
		t.Errorf("%d, %+v", wrong, x.Pilot())
	}
	advances(t, x, 30130)
	if l := x.Plans(); len(l) != 4 || l[3] != (api.Plan{From: 30130, End: 40160, Rate: 99000, Wanted: true, Gen: 1}) {
		t.Errorf("%+v", l)
	}
}

func TestAdvanceWhatIsRefused(t *testing.T) { // P27.2
	for _, at := range []int{0, 1, 700, 1 << 38, lastTime - jump, lastTime - 5, lastTime} {
		x := made(t, steady(api.Allegro, 1000, 5000), 0, at, draw.Pcg(42, 54))
		sends(t, x, 100, 0)
		for _, to := range []int{least, -1, at - 1, at - jump, at + jump + 1, at + 2*jump, lastTime + 1, 1 << 40, 1 << 62, most} {
			refuses(t, x, api.ErrSpan, advancing(x, to))
		}
		advances(t, x, at)
		if at < lastTime {
			advances(t, x, at+1, at+1)
			refuses(t, x, api.ErrSpan, advancing(x, at), advancing(x, at+jump+2))
			farthest := min(at+1+jump, lastTime)
			advances(t, x, farthest)
			refuses(t, x, api.ErrSpan, advancing(x, at+1), advancing(x, farthest-1))
		}
	}
}

func TestAdvanceToTheLastTime(t *testing.T) { // P27.1, P27.2
	c := steady(api.Vivace, 10000000, 60000000)
	x := made(t, c, 0, lastTime-9999999, api.Source{})
	for at := lastTime - 9999999; at < lastTime; {
		at = min(at+jump, lastTime)
		advances(t, x, at)
	}
	if len(x.Plans()) != 1 {
		t.Errorf("%+v", x.Plans())
	}
	// Intervals may end behind it.
	x = made(t, c, 0, lastTime-10000000, api.Source{})
	for i := range 10 {
		advances(t, x, lastTime-10000000+(i+1)*jump)
	}
	if l := x.Plans(); len(l) != 2 || l[1].From != lastTime || l[1].End != lastTime+10000000 {
		t.Errorf("%+v", l)
	}
	refuses(t, x, api.ErrSpan, advancing(x, lastTime+1), advancing(x, lastTime-1))
	sends(t, x, 1, 0)
}

func TestIntervalsBeginWhereTheLastOneEnds(t *testing.T) { // P27.2
	c := config.Usual(api.Vivace)
	x := made(t, c, 0, 50, tape(0, 500, 1000, 0))
	for _, s := range []struct{ at, plans int }{{10049, 1}, {10050, 2}, {10051, 2}, {20549, 2}, {20550, 3}, {31549, 3}, {31550, 4}, {41549, 4}, {41550, 5}, {131549, 13}, {131550, 14}} {
		advances(t, x, s.at)
		l := x.Plans()
		if len(l) != s.plans || l[s.plans-1].From > s.at || l[s.plans-1].End <= s.at || x.Rate() != l[s.plans-1].Rate {
			t.Errorf("at %d: %+v", s.at, l)
		}
		for i := range l[1:] {
			if l[i+1].From != l[i].End {
				t.Errorf("at %d: %+v", s.at, l)
			}
		}
		m := x.Mis()
		if last := m[len(m)-1]; last != (api.Mi{Id: s.plans - 1, From: l[s.plans-1].From, To: -1}) {
			t.Errorf("at %d: %+v", s.at, m)
		}
	}
}

func TestCreditIsFilledAtEachPlansRate(t *testing.T) { // P27.2
	x := made(t, steady(api.Vivace, 10000, 3000000), 0, 0, api.Source{})
	for seq := range uint64(116) {
		sends(t, x, 9000, seq)
	}
	have := func(bytes int) {
		t.Helper()
		if x.Credit().Have != bytes*part {
			t.Fatalf("at %d: %d", x.Now(), x.Credit().Have)
		}
	}
	have(4576)
	advances(t, x, 1)
	if x.Credit() != (api.Credit{At: 1, Have: 4576*part + 50000}) {
		t.Errorf("%+v", x.Credit())
	}
	advances(t, x, 10000)
	have(5076)
	for seq := range uint64(116) {
		ends(t, x.Ack, api.Pkt{Seq: seq, Size: 9000})
	}
	advances(t, x, 25000) // 10000 at 50000, 5000 at 100000
	have(6076)
	if !slices.Equal(rates(x.Plans()), []int{50000, 50000, 100000}) {
		t.Errorf("%+v", x.Plans())
	}
	advances(t, x, 30000)
	have(6576)
	// No more than the burst.
	for x.Now() < 15000000 {
		advances(t, x, x.Now()+jump)
	}
	have(1048576)
}

func TestWhatHasNoPacketsIsSkipped(t *testing.T) { // P27.2
	for _, mode := range []int{1, 2, 3, 4, 5} {
		x := made(t, steady(mode, 10000, 20000), 0, 0, api.Source{})
		advances(t, x, 9999)
		if x.Pilot().Gen != 0 {
			t.Errorf("%d: %+v", mode, x.Pilot())
		}
		// The one that has just ended is told behind what the next one is to be.
		for i, gen := range []int{1, 1, 2, 2, 3, 3, 4} {
			advances(t, x, 10000*(i+1))
			if x.Pilot().Gen != gen || len(x.Mis()) != 1 {
				t.Errorf("%d: %d: %+v, %+v", mode, i, x.Pilot(), x.Mis())
			}
		}
		l := x.Plans()
		if !slices.Equal(wants(l), []bool{true, false, true, false, true, false, true, false}) || !slices.Equal(gens(l), []int{0, 0, 1, 1, 2, 2, 3, 3}) || !slices.Equal(rates(l), []int{50000, 50000, 50000, 50000, 50000, 50000, 50000, 50000}) {
			t.Errorf("%d: %+v", mode, l)
		}
		// All at once are the same.
		y := made(t, steady(mode, 10000, 20000), 0, 0, api.Source{})
		advances(t, y, 70000)
		if !looked(y).as(looked(x)) {
			t.Errorf("%d: %+v, not %+v", mode, looked(y), looked(x))
		}
	}
}

func TestWhatIsDoneIsTold(t *testing.T) { // P27.2, P27.3
	for _, mode := range []int{1, 2, 3, 4, 5} {
		for _, how := range []int{ack, lose, advance} {
			c := steady(mode, 10000, 25000)
			x := made(t, c, 3, 0, api.Source{})
			advances(t, x, 50)
			sends(t, x, 700, 3, 4)
			advances(t, x, 20000)
			was := x.Pilot()
			m := api.Mi{From: 0, To: 10000, Sent: 1400, Packets: 2}
			switch how {
			case ack:
				ends(t, x.Ack, api.Pkt{Seq: 4, Size: 700, Sent: 50})
			case lose:
				ends(t, x.Lose, api.Pkt{Seq: 4, Size: 700, Sent: 50})
			case advance:
				advances(t, x, 25049)
			}
			if x.Pilot() != was { // one is still on its way
				t.Errorf("%d, %d: %+v", mode, how, x.Pilot())
			}
			switch how {
			case ack:
				ends(t, x.Ack, api.Pkt{Seq: 3, Size: 700, Sent: 50})
				m.Acked, m.Hits, m.N = 1400, 2, 2
				m.SumT, m.SumR, m.SumTT, m.SumTR, m.SumRR = 2*50, 2*19950, 2*50*50, 2*50*19950, 2*19950*19950
			case lose:
				ends(t, x.Lose, api.Pkt{Seq: 3, Size: 700, Sent: 50})
				m.Lost, m.Drops = 1400, 2
			case advance:
				advances(t, x, 25050)
				m.Lost, m.Drops = 1400, 2
			}
			if want := told(t, c, was, m); x.Pilot() != want || x.Pilot() == was || x.Pilot().Gen != 0 {
				t.Errorf("%d, %d: %+v, not %+v", mode, how, x.Pilot(), want)
			}
			if x.Rate() != 50000 || len(x.Plans()) != 3 {
				t.Errorf("%d, %d: %+v", mode, how, x.Plans())
			}
		}
	}
}

func TestOnlyWhatIsOverIsTold(t *testing.T) { // P27.2, P27.3
	// What goes on is not done, though all of its packets were acked.
	x := made(t, steady(api.Vivace, 10000, 20000), 0, 0, api.Source{})
	sends(t, x, 700, 0)
	ends(t, x.Ack, api.Pkt{Size: 700})
	advances(t, x, 9999)
	if x.Pilot().C.Start.N != 0 || len(x.Mis()) != 1 {
		t.Errorf("%+v, %+v", x.Pilot(), x.Mis())
	}
	advances(t, x, 10000)
	if x.Pilot().C.Start.N != 1 || len(x.Mis()) != 1 || x.Plans()[1].Wanted {
		t.Errorf("%+v, %+v", x.Pilot(), x.Mis())
	}
}

func TestWhatExpiresAtAnEndIsToldAheadOfTheNext(t *testing.T) { // P27.2
	for _, mode := range []int{1, 2, 3, 4, 5} {
		for _, timeout := range []int{20000, 20001} {
			c := steady(mode, 10000, timeout)
			x := made(t, c, 0, 0, api.Source{})
			sends(t, x, 1000, 0)
			was := x.Pilot()
			advances(t, x, 20000)
			in := timeout == 20000
			if l := x.Plans(); len(l) != 3 || l[2].Wanted != in || (l[2].Rate == 100000) != in {
				t.Errorf("%d, %d: %+v", mode, timeout, l)
			}
			after := told(t, c, was, api.Mi{To: 10000, Sent: 1000, Lost: 1000, Packets: 1, Drops: 1})
			if in {
				_, after, _ = asked(t, c, after, 20000, api.Source{})
			} else {
				after = was
			}
			if x.Pilot() != after {
				t.Errorf("%d, %d: %+v, not %+v", mode, timeout, x.Pilot(), after)
			}
		}
	}
}

func TestWhatExpiresBetweenEnds(t *testing.T) { // P27.2
	x := made(t, steady(api.Vivace, 7000, 10000), 0, 0, api.Source{})
	sends(t, x, 1000, 0)
	advances(t, x, 5)
	sends(t, x, 2000, 1)
	advances(t, x, 9999)
	if m := x.Mis(); len(m) != 2 || m[0].Drops != 0 {
		t.Errorf("%+v", m)
	}
	advances(t, x, 10000)
	if m := x.Mis(); len(m) != 2 || m[0] != (api.Mi{To: 7000, Sent: 3000, Lost: 1000, Packets: 2, Drops: 1}) {
		t.Errorf("%+v", m)
	}
	refuses(t, x, api.ErrTwice, ending(x.Ack, 0), ending(x.Lose, 0))
	advances(t, x, 10004)
	ends(t, x.Ack, api.Pkt{Seq: 1, Size: 2000, Sent: 5})
	if m := x.Mis(); len(m) != 1 || x.Pilot().C.Start.N != 1 {
		t.Errorf("%+v, %+v", m, x.Pilot())
	}
}

func TestIntervalsAreToldInOrder(t *testing.T) { // P27.2, P27.3
	// Four intervals of a contest are acked from the last to the first.
	c := steady(api.Allegro, 10000, 3000000)
	x := made(t, c, 0, 0, tape(2))
	if wrong := x.Switch(api.Vivace); wrong != api.OK {
		t.Fatal(wrong)
	}
	if wrong := x.Switch(api.Allegro); wrong != api.OK {
		t.Fatal(wrong)
	}
	advances(t, x, 10000) // the first one has no packets, and does not count any more
	for i := range 4 {
		sends(t, x, 500+10*i, uint64(i))
		advances(t, x, 10000*(i+2))
	}
	if l := x.Plans(); !slices.Equal(wants(l), []bool{true, true, true, true, true, false}) || !slices.Equal(gens(l), []int{0, 2, 2, 2, 2, 2}) || x.Pilot().Gen != 2 {
		t.Fatalf("%+v", l)
	}
	was := x.Pilot()
	for i := 3; i > 0; i-- {
		ends(t, x.Lose, api.Pkt{Seq: uint64(i), Mi: i + 1, Size: 500 + 10*i, Sent: 10000 * (i + 1)})
		if x.Pilot() != was || len(x.Mis()) != 5 {
			t.Fatalf("%+v", x.Pilot())
		}
	}
	ends(t, x.Lose, api.Pkt{Seq: 0, Mi: 1, Size: 500, Sent: 10000})
	want := was
	for i := range 4 {
		size := 500 + 10*i
		want = told(t, c, want, api.Mi{Id: i + 1, From: 10000 * (i + 1), To: 10000 * (i + 2), Sent: size, Lost: size, Packets: 1, Drops: 1})
	}
	if x.Pilot() != want || len(x.Mis()) != 1 || want.S.Asked != 0 {
		t.Errorf("%+v, not %+v", x.Pilot(), want)
	}
}

func TestWhatDoesNotCountIsNotTold(t *testing.T) { // P27.2, P27.3
	for _, empty := range []bool{true, false} {
		x := made(t, steady(api.Vivace, 10000, 3000000), 0, 0, api.Source{})
		pkt := api.Pkt{Size: 500}
		if !empty {
			sends(t, x, 500, 0)
		}
		if wrong := x.Switch(api.ProteusP); wrong != api.OK {
			t.Fatal(wrong)
		}
		advances(t, x, 5000)
		if !empty {
			ends(t, x.Ack, pkt)
		}
		was := x.Pilot()
		if was.Gen != 1 || was.C.Asked != 0 {
			t.Errorf("%+v", was)
		}
		advances(t, x, 10000)
		if p := x.Pilot(); p.Gen != 1 || p.C.Asked != 1 || p.C.X.N != 0 || len(x.Mis()) != 1 {
			t.Errorf("%t: %+v", empty, p)
		}
	}
	// Nor is what was not wanted, whether it has packets or not.
	for _, many := range []int{0, 1} {
		x := made(t, steady(api.Vivace, 10000, 3000000), 0, 0, api.Source{})
		sends(t, x, 500, 0)
		advances(t, x, 10000)
		for range many {
			sends(t, x, 500, 1)
			ends(t, x.Ack, api.Pkt{Seq: 1, Mi: 1, Size: 500, Sent: 10000})
		}
		advances(t, x, 20000, 30000)
		was := x.Pilot()
		if !slices.Equal(wants(x.Plans()), []bool{true, false, false, false}) {
			t.Errorf("%+v", x.Plans())
		}
		ends(t, x.Ack, api.Pkt{Size: 500})
		if p := x.Pilot(); len(x.Mis()) != 1 || p.Gen != 0 || p.C.Start.N != 1 || p == was {
			t.Errorf("%+v, %+v", p, x.Mis())
		}
	}
}

// crowded is a sender of whose 64 intervals none can be taken, as the packet of the first one is on its way.
func crowded(t *testing.T, timeout int, s api.Source) *Sender {
	t.Helper()
	c := steady(api.Vivace, 1000, timeout)
	c.MiMax = 1999
	x := made(t, c, 0, 0, s)
	sends(t, x, 1000, 0)
	advances(t, x, 63999)
	if len(x.Mis()) != 64 || len(x.Plans()) != 64 || x.Plans()[63].End != 64000 {
		t.Fatalf("%+v", x.Plans())
	}
	return x
}

// zeros is a tape of so many zeros, and some numbers behind them.
func zeros(many int, l ...uint64) api.Source {
	return tape(append(make([]uint64, many), l...)...)
}

func TestPlansGrowLongerWhereNoIntervalMayBegin(t *testing.T) { // P27.2
	x := crowded(t, 60000000, zeros(64, 5, 6, 7, 8))
	plan := x.Plans()[63]
	mis := x.Mis()
	for _, s := range []struct{ at, end int }{{63999, 64000}, {64000, 65005}, {65004, 65005}, {65005, 66011}, {67018, 68026}, {68025, 68026}, {69025, 69026}} {
		advances(t, x, s.at)
		plan.End = s.end
		if l := x.Plans(); len(l) != 64 || l[63] != plan || !slices.Equal(x.Mis(), mis) {
			t.Errorf("at %d: %+v, not %+v", s.at, l[len(l)-1], plan)
		}
	}
	// What is sent is of the interval that goes on.
	sends(t, x, 10, 1)
	ends(t, x.Ack, api.Pkt{Seq: 1, Mi: 63, Size: 10, Sent: 69025})
	ends(t, x.Ack, api.Pkt{Size: 1000})
	if m := x.Mis(); len(m) != 1 || m[0].Id != 63 || len(x.Plans()) != 64 {
		t.Errorf("%+v", m)
	}
	advances(t, x, 69026)
	if l := x.Plans(); len(l) != 65 || l[64].From != 69026 || l[64].End != 70026 || l[63] != (api.Plan{From: 63000, End: 69026, Rate: 50000}) {
		t.Errorf("%+v", l[63:])
	}
}

func TestWhatExpiresMakesRoomForIntervals(t *testing.T) { // P27.2
	for _, s := range []struct{ timeout, at, plans, end int }{
		{64000, 64000, 65, 65000}, // at the same time, ahead of the next
		{64001, 64000, 64, 65000},
		{64001, 64001, 64, 65000},
		{64001, 65000, 65, 66000},
		{64000, 70000, 71, 71000},
		{64001, 70000, 70, 71000},
		{66000, 70000, 69, 71000},
		{66001, 70000, 68, 71000},
	} {
		x := crowded(t, s.timeout, api.Source{})
		advances(t, x, s.at)
		if l := x.Plans(); len(l) != s.plans || l[len(l)-1].End != s.end {
			t.Errorf("%+v: %d, %+v", s, len(l), l[len(l)-1])
		}
	}
}

func TestCreditOfALongerPlan(t *testing.T) { // P27.2
	c := steady(api.Vivace, 1000, 60000000)
	x := made(t, c, 0, 0, api.Source{})
	for seq := range uint64(116) {
		sends(t, x, 9000, seq)
	}
	advances(t, x, 100000)
	if len(x.Plans()) != 64 || x.Credit().Have != (4576+5000)*part {
		t.Errorf("%d, %+v", len(x.Plans()), x.Credit())
	}
}

func TestSend(t *testing.T) { // P27.3
	c := config.Usual(api.ProteusP)
	c.Ring = 4
	x := made(t, c, 20, 0, api.Source{})
	for _, size := range []int{0, -1, 9001, least, most, 1<<32 + 1} {
		refuses(t, x, api.ErrSize, sending(x, size))
	}
	sends(t, x, 9000, 20)
	refuses(t, x, api.ErrEarly, sending(x, 9000), sending(x, 6001))
	sends(t, x, 5999, 21)
	sends(t, x, 1, 22)
	refuses(t, x, api.ErrEarly, sending(x, 1), sending(x, 1500))
	refuses(t, x, api.ErrSize, sending(x, 0), sending(x, -1), sending(x, 9001))
	advances(t, x, 19)
	refuses(t, x, api.ErrEarly, sending(x, 1))
	advances(t, x, 20)
	refuses(t, x, api.ErrEarly, sending(x, 2))
	sends(t, x, 1, 23)
	want := []api.Mi{{To: -1, Sent: 15001, Packets: 4}}
	// Of both it is the credit that refuses first.
	refuses(t, x, api.ErrEarly, sending(x, 1))
	advances(t, x, 400)
	refuses(t, x, api.ErrFull, sending(x, 1), sending(x, 19))
	refuses(t, x, api.ErrEarly, sending(x, 20))
	refuses(t, x, api.ErrSize, sending(x, 0), sending(x, 9001))
	if m := x.Mis(); !slices.Equal(m, want) {
		t.Errorf("%+v", m)
	}
}

func TestPacketsAreSentAtNow(t *testing.T) { // P27.3
	x := made(t, steady(api.Hybrid, 10000, 20000), 0, 30, api.Source{})
	sends(t, x, 1, 0)
	advances(t, x, 77)
	sends(t, x, 2, 1)
	advances(t, x, 10029)
	sends(t, x, 3, 2)
	advances(t, x, 10030)
	sends(t, x, 4, 3)
	advances(t, x, 10500)
	ends(t, x.Ack, api.Pkt{Seq: 3, Mi: 1, Size: 4, Sent: 10030}, api.Pkt{Seq: 1, Size: 2, Sent: 77})
	ends(t, x.Lose, api.Pkt{Seq: 2, Size: 3, Sent: 10029})
	want := []api.Mi{
		{From: 30, To: 10030, Sent: 6, Acked: 2, Lost: 3, Packets: 3, Hits: 1, Drops: 1, N: 1, SumT: 47, SumR: 10423, SumTT: 47 * 47, SumTR: 47 * 10423, SumRR: 10423 * 10423},
		{Id: 1, From: 10030, To: -1, Sent: 4, Acked: 4, Packets: 1, Hits: 1, N: 1, SumR: 470, SumRR: 470 * 470},
	}
	if m := x.Mis(); !slices.Equal(m, want) {
		t.Errorf("%+v", m)
	}
	refuses(t, x, api.ErrTwice, ending(x.Ack, 3), ending(x.Lose, 3), ending(x.Ack, 2), ending(x.Lose, 1))
	refuses(t, x, api.ErrNone, ending(x.Ack, 4), ending(x.Lose, 4), ending(x.Ack, end), ending(x.Lose, end))
}

func TestMostPacketsOfOneInterval(t *testing.T) { // P27.3
	c := steady(api.Vivace, 1100000, 60000000)
	c.MaxRate, c.StartRate = 1000000000, 1000000000
	x := made(t, c, 0, 0, api.Source{})
	for n := range uint64(1048576) {
		if n%1000 == 0 {
			advances(t, x, x.Now()+1)
		}
		sends(t, x, 1, n)
		ends(t, x.Ack, api.Pkt{Seq: n, Size: 1, Sent: x.Now()})
	}
	refuses(t, x, api.ErrFull, sending(x, 1), sending(x, 9000))
	advances(t, x, jump)
	refuses(t, x, api.ErrFull, sending(x, 1))
	advances(t, x, 1100000)
	sends(t, x, 1, 1048576)
}

func TestSwitch(t *testing.T) { // P27.3
	for _, from := range []int{1, 2, 3, 4, 5} {
		for _, to := range []int{1, 2, 3, 4, 5} {
			c, s := config.Usual(from), tape(3, 1, 90000, 1<<31, 4, 5)
			x := made(t, c, 0, 0, s)
			sends(t, x, 1500, 0, 1)
			refuses(t, x, api.ErrMode, switching(x, 0), switching(x, 6), switching(x, -1), switching(x, least), switching(x, most))
			was := looked(x)
			s.At = 1
			want, behind, wrong := modes.Switch(c, was.pilot, to, s)
			if wrong != api.OK {
				t.Fatal(wrong)
			}
			if wrong := x.Switch(to); wrong != api.OK {
				t.Fatalf("%d, %d: %d", from, to, wrong)
			}
			was.pilot = want
			if l := looked(x); !l.as(was) || (want.Gen == 1) != (from != to) {
				t.Errorf("%d, %d: %+v, not %+v", from, to, l, was)
			}
			// It goes on from the source behind.
			advances(t, x, 10003)
			next, then, _ := asked(t, c, want, 10003, behind)
			if l := x.Plans(); len(l) != 2 || l[1] != next || x.Pilot() != then || x.Rate() != next.Rate {
				t.Errorf("%d, %d: %+v, not %+v", from, to, l, next)
			}
		}
	}
}

func TestARateThatIsLeftStaysUntilTheNextPlan(t *testing.T) { // P27.3, P27.4
	x := made(t, steady(api.Vivace, 10000, 20000), 0, 0, api.Source{})
	sends(t, x, 700, 0)
	advances(t, x, 10000)
	ends(t, x.Ack, api.Pkt{Size: 700})
	was := x.Plans()
	if wrong := x.Switch(api.ProteusS); wrong != api.OK || x.Pilot().C.Rate != 100000 || x.Rate() != 50000 || !slices.Equal(x.Plans(), was) {
		t.Errorf("%d, %+v, %+v", wrong, x.Pilot(), x.Plans())
	}
	advances(t, x, 20000)
	if x.Rate() != 99000 {
		t.Errorf("%+v", x.Plans())
	}
}

func TestTheSourceGoesOnBehindWhatIsTold(t *testing.T) { // P27.2, P27.3
	// Four lengths are drawn, a pair when the starting phase is over, and another length.
	x := made(t, config.Usual(api.Vivace), 0, 0, tape(0, 0, 0, 5, 1<<31, 7, 8))
	sends(t, x, 700, 0)
	ends(t, x.Ack, api.Pkt{Size: 700})
	advances(t, x, 20000)
	sends(t, x, 700, 1)
	ends(t, x.Lose, api.Pkt{Seq: 1, Mi: 2, Size: 700, Sent: 20000})
	advances(t, x, 50012)
	want := []api.Plan{
		{From: 0, End: 10000, Rate: 50000, Wanted: true},
		{From: 10000, End: 20000, Rate: 50000},
		{From: 20000, End: 30000, Rate: 100000, Wanted: true},
		{From: 30000, End: 40005, Rate: 100000},
		{From: 40005, End: 50012, Rate: 50500, Wanted: true},
		{From: 50012, End: 60020, Rate: 49500, Wanted: true},
	}
	if !slices.Equal(x.Plans(), want) {
		t.Errorf("%+v", x.Plans())
	}
}

func TestWait(t *testing.T) { // P27.4
	x := made(t, config.Usual(api.Vivace), 0, 0, api.Source{})
	sends(t, x, 7500, 0, 1)
	for _, s := range []struct{ size, want int }{
		{least, 0}, {-1, 0}, {0, 0}, {1, 20}, {2, 40}, {1500, 30000}, {9000, 180000}, {15000, 300000}, {1 << 40, 20 << 40}, {most, api.Top},
	} {
		if n := x.Wait(s.size); n != s.want {
			t.Errorf("%d: %d", s.size, n)
		}
	}
	advances(t, x, 19)
	if x.Wait(1) != 1 || x.Wait(2) != 21 {
		t.Errorf("%d, %d", x.Wait(1), x.Wait(2))
	}
	// By the rate of the plan, not by that which the pilot has.
	advances(t, x, 10000)
	ends(t, x.Ack, api.Pkt{Size: 7500}, api.Pkt{Seq: 1, Size: 7500})
	if x.Pilot().C.Rate != 100000 || x.Rate() != 50000 || x.Wait(1500) != 20000 {
		t.Errorf("%+v, %d", x.Pilot(), x.Wait(1500))
	}
	advances(t, x, 20000)
	if x.Rate() != 100000 || x.Wait(1500) != 5000 {
		t.Errorf("%d, %d", x.Rate(), x.Wait(1500))
	}
}

func TestNilSender(t *testing.T) { // P27.1, P27.2, P27.3, P27.4
	// One that was not made by New is as none, and does not panic either.
	for i, x := range []*Sender{nil, {}} {
		for _, n := range []int{0, 1, 2, 1500, 10000, -1, least, most} {
			seq, a := x.Send(n)
			p, b := x.Ack(uint64(n))
			q, c := x.Lose(uint64(n))
			d, e := x.Advance(n), x.Switch(n)
			for _, wrong := range []api.Errno{a, b, c, d, e} {
				if wrong != api.ErrNil {
					t.Errorf("%d, %d: %d %d %d %d %d", i, n, a, b, c, d, e)
				}
			}
			if seq != 0 || p != (api.Pkt{}) || q != p || x.Wait(n) != 0 {
				t.Errorf("%d, %d: %d, %v, %v, %d", i, n, seq, p, q, x.Wait(n))
			}
		}
		if !looked(x).as(look{}) || x.Plans() != nil || x.Mis() != nil {
			t.Errorf("%d: %+v", i, looked(x))
		}
	}
}

func TestNewWordForWord(t *testing.T) { // P27.1
	r := random(1)
	codes := map[api.Errno]int{}
	for range 20000 {
		c, first, at, s := r.config(), r.first(), r.upTo(1<<31-2)*r.upTo(256), r.source()
		switch r.below(12) {
		case 0:
			at = []int{r.any(), -1, lastTime, lastTime + 1}[r.below(4)]
		case 1:
			c.Mode = r.any()
		case 2:
			c.MaxRate = r.any()
		case 3:
			c.Burst = r.any()
		case 4:
			c.MiMin = r.any()
		case 5:
			c.Eps = r.any()
		case 6:
			c.Power = r.any()
		}
		x, wrong := New(c, first, at, s)
		m, code := modelOf(c, first, at, s)
		if wrong != code || (x == nil) != (m == nil) || m != nil && !looked(x).as(m.looked()) {
			t.Fatalf("%+v, %d: %d, not %d", c, at, wrong, code)
		}
		codes[wrong]++
	}
	for _, code := range []api.Errno{api.OK, api.ErrMode, api.ErrRate, api.ErrSize, api.ErrSpan, api.ErrStep, api.ErrGain} {
		if codes[code] < 100 {
			t.Errorf("%d: %d", code, codes[code])
		}
	}
}

// begun is a random sender, and its model.
func begun(t *testing.T, r *random) (*Sender, *model, api.Config, uint64) {
	t.Helper()
	c, first, at, s := r.config(), r.first(), r.upTo(1<<31-2), r.source()
	if r.below(8) == 0 {
		at = lastTime - r.upTo(2000000)
	}
	x, wrong := New(c, first, at, s)
	m, code := modelOf(c, first, at, s)
	if wrong != api.OK || code != api.OK {
		t.Fatalf("%+v at %d: %d, %d", c, at, wrong, code)
	}
	return x, m, c, first
}

func TestWordForWord(t *testing.T) { // P27.1, P27.2, P27.3, P27.4
	r := random(2)
	codes := map[int]map[api.Errno]int{advance: {}, send: {}, ack: {}, lose: {}, turn: {}}
	var all model
	for range 1000 {
		x, m, c, first := begun(t, &r)
		r.walk(x, c, first, 150, func(s step) {
			if want := s.does(m); s != want || !looked(x).as(m.looked()) {
				t.Fatalf("%+v, %+v, not %+v: %+v, not %+v", c, s, want, looked(x), m.looked())
			}
			codes[s.kind][s.wrong]++
		})
		all.told += m.told
		all.skipped += m.skipped
		all.longer += m.longer
	}
	for kind, l := range map[int][]api.Errno{
		advance: {api.OK, api.ErrSpan},
		send:    {api.OK, api.ErrSize, api.ErrEarly, api.ErrFull, api.ErrShut},
		ack:     {api.OK, api.ErrNone, api.ErrTwice},
		lose:    {api.OK, api.ErrNone, api.ErrTwice},
		turn:    {api.OK, api.ErrMode},
	} {
		for _, code := range l {
			if codes[kind][code] < 100 {
				t.Errorf("%d, %d: %d", kind, code, codes[kind][code])
			}
		}
		if len(codes[kind]) != len(l) {
			t.Errorf("%d: %v", kind, codes[kind])
		}
	}
	if all.told < 1000 || all.skipped < 1000 || all.longer < 1000 {
		t.Errorf("%d, %d, %d", all.told, all.skipped, all.longer)
	}
}

// runs sends all that a sender may send, alone on a way that takes so many bytes of each interval at once, and loses the others.
func runs(t *testing.T, x *Sender, size, takes, intervals int) {
	t.Helper()
	for taken, of := 0, 0; len(x.Plans()) <= intervals; {
		advances(t, x, x.Now()+x.Wait(size))
		if last := len(x.Plans()) - 1; last != of {
			taken, of = 0, last
		}
		seq, wrong := x.Send(size)
		if wrong == api.ErrEarly { // a plan began on the way, at a lower rate
			continue
		}
		pkt := api.Pkt{Seq: seq, Mi: of, Size: size, Sent: x.Now()}
		if taken += size; taken > takes {
			ends(t, x.Lose, pkt)
		} else {
			ends(t, x.Ack, pkt)
		}
	}
}

func TestARateIsFound(t *testing.T) { // P27.2, P27.3, T2
	for _, mode := range []int{1, 2, 3, 4, 5} {
		c := steady(mode, 100000, 3000000)
		c.Packet, c.Burst = 64, 64
		x := made(t, c, 0, 0, draw.Pcg(42, 54))
		runs(t, x, 64, 20000, 60) // 200000 a second
		var l []int
		for _, p := range x.Plans() {
			if p.Wanted {
				l = append(l, p.Rate)
			}
		}
		if !slices.Equal(l[:4], []int{50000, 100000, 200000, 400000}) {
			t.Errorf("%d: %v", mode, l)
		}
		round := []int{198000, 202000}
		if mode == api.Allegro {
			round = []int{198000, 198000, 202000, 202000}
		}
		if tried := l[4 : 4+len(round)]; !slices.Equal(slices.Sorted(slices.Values(tried)), round) {
			t.Errorf("%d: %v", mode, l)
		}
		if behind := l[4:]; slices.Max(behind) > 400000 || slices.Min(behind) < 100000 {
			t.Errorf("%d: %v", mode, l)
		}
	}
}

// given tells how many parts of bytes the rates of plans give from the first time to another one.
func given(plans []api.Plan, at int) int {
	sum := 0
	for _, p := range plans {
		if p.From < at {
			sum += p.Rate * (min(p.End, at) - p.From)
		}
	}
	return sum
}

func TestNoMoreIsSentThanRatesGive(t *testing.T) { // P27.5, T6
	r := random(3)
	packets, near := 0, 0
	for range 250 {
		c, s := r.config(), r.source()
		c.Ring = 4096
		c.MaxRate = c.MinRate + (c.MaxRate-c.MinRate)%1000000 // so that all sums are ints
		c.StartRate = min(c.StartRate, c.MaxRate)
		x := made(t, c, 0, 0, s)
		var sent []step // n is the size, and seq when
		for range 300 {
			if r.below(3) == 0 {
				advances(t, x, x.Now()+min(jump, x.Wait(c.Packet)))
			} else if r.below(2) == 0 {
				advances(t, x, x.Now()+r.upTo(c.MiMin))
			}
			size := c.Packet
			if r.below(4) == 0 {
				size = 1 + r.below(c.Packet)
			}
			if seq, wrong := x.Send(size); wrong == api.OK {
				sent = append(sent, step{n: size, seq: uint64(x.Now())})
				if r.below(2) == 0 {
					x.Ack(seq)
				}
			}
		}
		plans, before, leastAhead := x.Plans(), 0, most
		for _, p := range sent {
			gave := given(plans, int(p.seq))
			leastAhead = min(leastAhead, before-gave)
			before += p.n * part
			over := before - gave - leastAhead
			if over > c.Burst*part {
				t.Fatalf("%+v: %d more than %d", c, over, c.Burst)
			}
			packets++
			if over > c.Burst*part-c.Packet*part {
				near++
			}
		}
	}
	if packets < 10000 || near < 1000 {
		t.Errorf("%d, %d", packets, near)
	}
}

// journal is what a sender's calls tell of its packets, from outside.
type journal struct {
	sent  map[uint64]api.Pkt
	ended map[uint64]step // how, and n when
	codes map[api.Errno]int
}

// over tells how a packet ended, by what was told, as timeouts are over at now: it is on its way, acked or lost.
func (j journal) over(c api.Config, p api.Pkt, now int) (kind int, at int) {
	if s, ok := j.ended[p.Seq]; ok {
		return s.kind, s.n
	}
	if p.Sent <= now-c.Timeout {
		return lose, 0
	}
	return send, 0
}

// account is that of an interval by what was told of its packets.
func (j journal) account(c api.Config, m api.Mi, now int) api.Mi {
	a := api.Mi{Id: m.Id, From: m.From, To: m.To}
	for _, p := range j.sent {
		if p.Mi != m.Id {
			continue
		}
		a.Packets++
		a.Sent += p.Size
		switch kind, at := j.over(c, p, now); kind {
		case ack:
			a.Hits++
			a.Acked += p.Size
			t, r := p.Sent-m.From, at-p.Sent
			a.N, a.SumT, a.SumR, a.SumTT, a.SumTR, a.SumRR = a.N+1, a.SumT+t, a.SumR+r, a.SumTT+t*t, a.SumTR+t*r, a.SumRR+r*r
		case lose:
			a.Drops++
			a.Lost += p.Size
		}
	}
	return a
}

// notes writes down a call, and tells what is wrong with it.
func (j journal) notes(x *Sender, c api.Config, s step) string {
	j.codes[s.wrong]++
	p := j.sent[s.seq]
	switch {
	case s.kind == send && s.wrong == api.OK:
		// It is of the interval that goes on, which is the last one.
		last := len(x.Plans()) - 1
		if p := x.Plans()[last]; p.From > x.Now() || p.End <= x.Now() {
			return "not the plan of now"
		}
		j.sent[s.seq] = api.Pkt{Seq: s.seq, Mi: last, Size: s.n, Sent: x.Now()}
	case s.kind != ack && s.kind != lose:
	case s.wrong == api.OK:
		if kind, _ := j.over(c, p, x.Now()); kind != send || s.pkt != p {
			return "twice, or another packet"
		}
		j.ended[s.seq] = step{kind: s.kind, n: x.Now()}
	case s.wrong == api.ErrTwice:
		if kind, _ := j.over(c, p, x.Now()); p.Size == 0 || kind == send {
			return "refused, though on its way"
		}
	case p.Size != 0:
		return "refused, though sent"
	}
	return ""
}

func TestEachPacketIsChargedOnce(t *testing.T) { // P27.5, T5
	r := random(4)
	codes := map[api.Errno]int{}
	for range 300 {
		x, _, c, first := begun(t, &r)
		j := journal{map[uint64]api.Pkt{}, map[uint64]step{}, codes}
		r.walk(x, c, first, 150, func(s step) {
			if wrong := j.notes(x, c, s); wrong != "" {
				t.Fatalf("%+v: %+v: %s", c, s, wrong)
			}
			mis := x.Mis()
			for i, m := range mis {
				to := -1
				if i < len(mis)-1 {
					to = x.Plans()[m.Id].End
				}
				if m != j.account(c, m, x.Now()) || m.From != x.Plans()[m.Id].From || m.To != to || m.Id != mis[0].Id+i {
					t.Fatalf("%+v: %+v, not %+v", c, m, j.account(c, m, x.Now()))
				}
			}
			// All that were taken are done.
			for _, p := range j.sent {
				if kind, _ := j.over(c, p, x.Now()); p.Mi < mis[0].Id && kind == send {
					t.Fatalf("%+v: %+v of %+v", c, p, mis)
				}
			}
			// And what is done was taken.
			if len(mis) > 1 && mis[0].Hits+mis[0].Drops == mis[0].Packets {
				t.Fatalf("%+v: %+v", c, mis)
			}
		})
	}
	if codes[api.ErrTwice] < 500 || codes[api.ErrNone] < 500 || codes[api.OK] < 20000 {
		t.Errorf("%v", codes)
	}
}

func TestRatesAreWithinTheBounds(t *testing.T) { // P27.5, T2
	r := random(5)
	for range 1000 {
		x, _, c, first := begun(t, &r)
		r.walk(x, c, first, 120, func(s step) {
			if x.Rate() < c.MinRate || x.Rate() > c.MaxRate || !modes.Is(x.Pilot()) || !credit.Is(c.Burst, x.Credit()) {
				t.Fatalf("%+v: %d, %+v, %+v", c, x.Rate(), x.Pilot(), x.Credit())
			}
		})
		at := x.Plans()[0].From
		for i, p := range x.Plans() {
			if p.Rate < c.MinRate || p.Rate > c.MaxRate || p.From != at || p.End < at+c.MiMin {
				t.Fatalf("%+v: %d: %+v", c, i, p)
			}
			at = p.End
		}
	}
}

func TestAFullLedgerSendsAgain(t *testing.T) { // P27.5
	for _, ring := range []int{1, 2, 7, 4096} {
		c := steady(api.Vivace, 1000000, 2000000)
		c.Ring = ring
		x := made(t, c, 0, 0, api.Source{})
		for seq := range ring {
			sends(t, x, 1, uint64(seq))
		}
		next := uint64(ring)
		full := func() {
			t.Helper()
			refuses(t, x, api.ErrFull, sending(x, 1), sending(x, 9000))
			refuses(t, x, api.ErrNone, ending(x.Ack, next), ending(x.Lose, next))
		}
		full()
		advances(t, x, 5)
		full()
		ends(t, x.Ack, api.Pkt{Size: 1})
		sends(t, x, 1, next)
		next++
		full()
		ends(t, x.Lose, api.Pkt{Seq: next - 1, Size: 1, Sent: 5})
		sends(t, x, 1, next)
		next++
		full()
		// What is told twice, or from nowhere, makes no room.
		refuses(t, x, api.ErrTwice, ending(x.Ack, 0), ending(x.Lose, next-2))
		full()
		advances(t, x, 1000000, 1999999)
		full()
		advances(t, x, 2000000) // all are over but the one of 5
		for range ring - 1 {
			sends(t, x, 1, next)
			next++
		}
		full()
		advances(t, x, 2000005)
		sends(t, x, 1, next)
		next++
		full()
	}
}

func TestInOneStepOrInMany(t *testing.T) { // P27.2, P25.5
	r := random(6)
	for range 1000 {
		c, at, tape := r.config(), r.upTo(1<<31-2), r.source()
		x, y := made(t, c, 0, at, tape), made(t, c, 0, at, tape)
		for range 20 {
			for range r.below(5) {
				s := step{kind: send, n: 1 + r.upTo(c.Packet-1)}
				if s.does(x) != s.does(y) {
					t.Fatalf("%+v: %+v", c, s)
				}
			}
			to := x.Now() + r.upTo(4*c.MiMax)%(jump+1)
			advances(t, x, to)
			for y.Now() < to {
				advances(t, y, min(to, y.Now()+1+r.upTo(c.MiMax)))
			}
			if r.below(2) == 0 {
				s := step{kind: ack, seq: uint64(r.upTo(20))}
				if s.does(x) != s.does(y) {
					t.Fatalf("%+v: %+v", c, s)
				}
			}
			if !looked(x).as(looked(y)) {
				t.Fatalf("%+v: %+v, not %+v", c, looked(x), looked(y))
			}
		}
	}
}

func TestBehindTheWaitThereIsEnough(t *testing.T) { // P27.4, P25.5
	r := random(7)
	waited := 0
	for range 1000 {
		c := r.config()
		c.MiMin, c.MiMax, c.Timeout, c.Ring = 10000000, 10000000, 60000000, 4096
		x := made(t, c, 0, 0, r.source())
		for range 100 {
			if n := x.Wait(c.Packet); n > 1 && n <= jump && x.Now()+n < 10000000 {
				advances(t, x, x.Now()+n-1)
				refuses(t, x, api.ErrEarly, sending(x, c.Packet))
				advances(t, x, x.Now()+1)
				waited++
			}
			enough := x.Wait(c.Packet) == 0
			if _, wrong := x.Send(c.Packet); enough != (wrong == api.OK) || !enough && wrong != api.ErrEarly {
				t.Fatalf("%+v: %d", c, wrong)
			}
		}
	}
	if waited < 1000 {
		t.Errorf("%d", waited)
	}
}

func TestWhatCameOutStays(t *testing.T) { // R2
	x := crowded(t, 60000000, api.Source{})
	was, plans, mis := looked(x), x.Plans(), x.Mis()
	advances(t, x, 66500)
	sends(t, x, 10, 1)
	ends(t, x.Lose, api.Pkt{Seq: 1, Mi: 63, Size: 10, Sent: 66500}, api.Pkt{Size: 1000})
	advances(t, x, 99000)
	if !slices.Equal(plans, was.plans) || !slices.Equal(mis, was.mis) || plans[63].End != 64000 || mis[63].Packets != 0 {
		t.Errorf("%+v, %+v", plans, mis)
	}
	// Nor is it the sender's own.
	is := looked(x)
	for i := range x.Plans() {
		x.Plans()[i] = api.Plan{}
	}
	l, m := x.Plans(), x.Mis()
	for i := range l {
		l[i] = api.Plan{End: -1}
	}
	for i := range m {
		m[i] = api.Mi{Packets: 9}
	}
	if !looked(x).as(is) {
		t.Errorf("%+v, not %+v", looked(x), is)
	}
	_ = append(x.Plans()[:1], api.Plan{End: 7})
	advances(t, x, 101000)
	if l := x.Plans(); l[1] != plans[1] || len(x.Mis()) != 1 {
		t.Errorf("%+v", l)
	}
}

func TestWhatIsHandedInStays(t *testing.T) { // R2
	l := []uint64{5, 90000, 3, 1 << 31, 1, 0, 7, 8}
	s := draw.Tape(l[:6])
	x, y := made(t, config.Usual(api.Allegro), 0, 0, s), made(t, config.Usual(api.Allegro), 0, 0, s)
	advances(t, x, 500000)
	if wrong := x.Switch(api.Vivace); wrong != api.OK {
		t.Fatal(wrong)
	}
	advances(t, x, 600000)
	if !slices.Equal(l, []uint64{5, 90000, 3, 1 << 31, 1, 0, 7, 8}) || s.At != 0 || y.Now() != 0 || len(y.Plans()) != 1 {
		t.Errorf("%v, %+v", l, s)
	}
}

func TestASenderGoesByWhatComesToItAlone(t *testing.T) { // T2, R2
	// Each of some senders does the same as one that is alone, whatever the others do in between.
	r := random(8)
	for n := range 60 {
		c, s := r.config(), r.source()
		var alone, among []step
		var last look
		for _, many := range []int{1, 3} {
			q, o := random(100+n), random(200+n)
			x := made(t, c, 5, 0, s)
			var others []*Sender
			for range many - 1 {
				others = append(others, made(t, c, 5, 0, s))
			}
			steps := &alone
			if many > 1 {
				steps = &among
			}
			q.walk(x, c, 5, 100, func(p step) {
				*steps = append(*steps, p)
				for _, y := range others {
					o.walk(y, c, 5, 2, func(step) {})
				}
			})
			if many == 1 {
				last = looked(x)
			} else if !looked(x).as(last) {
				t.Fatalf("%+v: %+v, not %+v", c, looked(x), last)
			}
		}
		if !slices.Equal(alone, among) || len(alone) != 100 {
			t.Fatalf("%+v: %v, not %v", c, among, alone)
		}
	}
}
