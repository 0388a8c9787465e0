package books

import (
	"math"
	"slices"
	"testing"

	"pacemaker/api"
)

const (
	end        = math.MaxUint64
	most       = math.MaxInt
	least      = math.MinInt
	lastTime   = 1099511627776
	mostRoom   = 4096
	mostSpan   = 60000000
	mostMis    = 64
	mostOfOne  = 1048576
	mostOfSums = 1024
)

// made are books that can be made.
func made(t *testing.T, room int, first uint64, timeout int) *Books {
	t.Helper()
	b, wrong := New(room, first, timeout)
	if b == nil || wrong != api.OK {
		t.Fatalf("room %d, from %d on, timeout %d: %d", room, first, timeout, wrong)
	}
	return b
}

// begins begins an interval that can begin.
func begins(t *testing.T, b *Books, at, id int) {
	t.Helper()
	if n, wrong := b.Begin(at); n != id || wrong != api.OK {
		t.Fatalf("at %d: %d, %d, not %d", at, n, wrong, id)
	}
}

// sends sends a packet that can be sent.
func sends(t *testing.T, b *Books, size, at int, seq uint64) {
	t.Helper()
	if n, wrong := b.Send(size, at); n != seq || wrong != api.OK {
		t.Fatalf("%d at %d: %d, %d, not %d", size, at, n, wrong, seq)
	}
}

// ends acks or loses a packet that is on its way.
func ends(t *testing.T, how func(uint64, int) (api.Pkt, api.Errno), at int, p api.Pkt) {
	t.Helper()
	if got, wrong := how(p.Seq, at); got != p || wrong != api.OK {
		t.Fatalf("at %d: %v, %d, not %v", at, got, wrong, p)
	}
}

// expires tells what is wrong with what expires.
func expires(t *testing.T, b *Books, at int, want ...api.Pkt) {
	t.Helper()
	if got, wrong := b.Expire(at); !slices.Equal(got, want) || wrong != api.OK {
		t.Fatalf("at %d: %v, %d, not %v", at, got, wrong, want)
	}
}

// looks tells what is wrong with what books tell of themselves.
func looks(t *testing.T, b *Books, free int, mis ...api.Mi) {
	t.Helper()
	if b.Free() != free || !slices.Equal(b.Mis(), mis) {
		t.Fatalf("free %d, %v, not %d, %v", b.Free(), b.Mis(), free, mis)
	}
}

// takes tells what is wrong with an interval that can be taken.
func takes(t *testing.T, b *Books, want api.Mi) {
	t.Helper()
	if m, ok := b.Take(); m != want || !ok {
		t.Fatalf("%v, %t, not %v", m, ok, want)
	}
}

// keeps tells what is wrong where none can be taken.
func keeps(t *testing.T, b *Books) {
	t.Helper()
	if m, ok := b.Take(); m != (api.Mi{}) || ok {
		t.Fatalf("%v, %t", m, ok)
	}
}

// refusals are what the calls of books with an error answer at a time, without a packet or interval told.
func refusals(t *testing.T, b *Books, size int, seq uint64, at int) (begin, send, ack, lose, expire api.Errno) {
	t.Helper()
	id, begin := b.Begin(at)
	next, send := b.Send(size, at)
	p, ack := b.Ack(seq, at)
	q, lose := b.Lose(seq, at)
	l, expire := b.Expire(at)
	if id != 0 || next != 0 || p != (api.Pkt{}) || q != p || l != nil {
		t.Fatalf("at %d: %d, %d, %v, %v, %v", at, id, next, p, q, l)
	}
	return begin, send, ack, lose, expire
}

// over tells what is wrong where a time is refused by all calls, whatever else is.
func over(t *testing.T, b *Books, seq uint64, ats ...int) {
	t.Helper()
	free, mis := b.Free(), b.Mis()
	for _, at := range ats {
		for _, size := range []int{100, 0} {
			for _, n := range []uint64{seq, seq + 1000} {
				begin, send, ack, lose, expire := refusals(t, b, size, n, at)
				for i, wrong := range []api.Errno{begin, send, ack, lose, expire} {
					if wrong != api.ErrSpan {
						t.Fatalf("call %d of %d, %d at %d: %d", i, size, n, at, wrong)
					}
				}
			}
		}
		looks(t, b, free, mis...)
	}
}

func TestNew(t *testing.T) { // P12.1
	for _, first := range []uint64{0, 1, 10, 1 << 63, end} {
		for _, room := range []int{1, 2, 1000, mostRoom - 1, mostRoom} {
			for _, timeout := range []int{1, 2, 50, mostSpan - 1, mostSpan} {
				looks(t, made(t, room, first, timeout), room)
			}
			for _, timeout := range []int{0, -1, least, mostSpan + 1, most, 1 << 32, 1<<32 + 1} {
				if b, wrong := New(room, first, timeout); b != nil || wrong != api.ErrSpan {
					t.Errorf("room %d, timeout %d: %v, %d", room, timeout, b, wrong)
				}
			}
		}
		for _, room := range []int{0, -1, least, mostRoom + 1, most, 1<<32 + 1} {
			for _, timeout := range []int{1, mostSpan, 0, -1, mostSpan + 1, least, most} { // the ledger's error is first
				if b, wrong := New(room, first, timeout); b != nil || wrong != api.ErrArg {
					t.Errorf("room %d, timeout %d: %v, %d", room, timeout, b, wrong)
				}
			}
		}
	}
}

func TestTheChaptersExamples(t *testing.T) { // P12.1, P12.2, P12.3, P12.4, P12.5
	b := made(t, 9, 0, 50)
	begins(t, b, 10, 0)
	sends(t, b, 100, 12, 0)
	begins(t, b, 20, 1)
	sends(t, b, 200, 21, 1)
	looks(t, b, 7, api.Mi{From: 10, To: 20, Sent: 100, Packets: 1}, api.Mi{Id: 1, From: 20, To: -1, Sent: 200, Packets: 1})
	ends(t, b.Ack, 30, api.Pkt{Size: 100, Sent: 12})
	takes(t, b, api.Mi{From: 10, To: 20, Sent: 100, Acked: 100, Packets: 1, Hits: 1, N: 1, SumT: 2, SumR: 18, SumTT: 4, SumTR: 36, SumRR: 324})
	keeps(t, b)
	expires(t, b, 71, api.Pkt{Seq: 1, Mi: 1, Size: 200, Sent: 21})
	if p, wrong := b.Ack(1, 72); p != (api.Pkt{}) || wrong != api.ErrTwice {
		t.Errorf("%v, %d", p, wrong)
	}
	looks(t, b, 9, api.Mi{Id: 1, From: 20, To: -1, Sent: 200, Lost: 200, Packets: 1, Drops: 1})
}

// What began last is closed when the next one begins.
func TestBegin(t *testing.T) { // P12.1, P12.2
	b := made(t, 1, 0, 1)
	var want []api.Mi
	for n, at := range []int{0, 0, 1, 5, 5, 5, mostSpan * 3, lastTime - 1, lastTime, lastTime} {
		begins(t, b, at, n)
		if n > 0 {
			want[n-1].To = at
		}
		want = append(want, api.Mi{Id: n, From: at, To: -1})
		looks(t, b, 1, want...)
	}
	over(t, b, 0, lastTime-1, lastTime+1, 0)
	for n := range 9 {
		takes(t, b, want[n])
		looks(t, b, 1, want[n+1:]...)
	}
	keeps(t, b)
	looks(t, b, 1, want[9])
}

func TestMostIntervals(t *testing.T) { // P12.2, P12.5
	for _, packets := range []int{0, 1, 3} { // in the first one
		b := made(t, 5, 0, mostSpan)
		for n := range mostMis {
			begins(t, b, 2*n, n)
			for i := range packets {
				if n == 0 {
					sends(t, b, 1, 0, uint64(i))
				}
			}
		}
		now := 2 * (mostMis - 1)
		mis := b.Mis()
		full := func(at int) {
			t.Helper()
			if n, wrong := b.Begin(at); n != 0 || wrong != api.ErrFull {
				t.Fatalf("at %d: %d, %d", at, n, wrong)
			}
		}
		for _, at := range []int{now, now + 1, lastTime} {
			full(at)
		}
		over(t, b, 0, now-1, lastTime+1) // and that is first
		looks(t, b, 5-packets, mis...)
		for i := range packets { // all others are done, but one after the other
			keeps(t, b)
			full(now)
			ends(t, b.Lose, now, api.Pkt{Seq: uint64(i), Size: 1})
		}
		mis[0].Lost, mis[0].Drops = packets, packets
		full(now)
		takes(t, b, mis[0])
		begins(t, b, now+1, mostMis)
		full(now + 1)
		mis[mostMis-1].To = now + 1
		looks(t, b, 5, append(mis[1:], api.Mi{Id: mostMis, From: now + 1, To: -1})...)
	}
}

// Ids go up, however many intervals were taken.
func TestIdsGoUp(t *testing.T) { // P12.2, P12.3, P12.5
	b := made(t, 3, 0, 10)
	for n := range 1000 {
		begins(t, b, 20*n, n)
		sends(t, b, 7, 20*n+1, uint64(n))
		if n > 0 {
			takes(t, b, api.Mi{Id: n - 1, From: 20 * (n - 1), To: 20 * n, Sent: 7, Lost: 7, Packets: 1, Drops: 1})
		}
		expires(t, b, 20*n+11, api.Pkt{Seq: uint64(n), Mi: n, Size: 7, Sent: 20*n + 1})
	}
	keeps(t, b)
}

func TestNoneHasBegun(t *testing.T) { // P12.1, P12.3, P12.4, P12.5
	b := made(t, 2, 3, 50)
	for _, size := range []int{1, 9000, 0, -1, 9001, least, most} { // ahead of the size
		for _, at := range []int{0, 1, lastTime} {
			if seq, wrong := b.Send(size, at); seq != 0 || wrong != api.ErrShut {
				t.Errorf("%d at %d: %d, %d", size, at, seq, wrong)
			}
		}
	}
	for _, seq := range []uint64{0, 3, end} {
		for _, how := range []func(uint64, int) (api.Pkt, api.Errno){b.Ack, b.Lose} {
			if p, wrong := how(seq, 0); p != (api.Pkt{}) || wrong != api.ErrNone {
				t.Errorf("%d: %v, %d", seq, p, wrong)
			}
		}
	}
	over(t, b, 3, -1, least, lastTime+1, most)
	keeps(t, b)
	expires(t, b, 7)
	over(t, b, 3, 6)
	looks(t, b, 2)
	begins(t, b, 7, 0)
}

// What refuses a packet, and of several the first.
func TestRefusedPackets(t *testing.T) { // P12.3
	refuses := func(b *Books, at int, later api.Errno) {
		t.Helper()
		free, mis := b.Free(), b.Mis()
		for _, size := range []int{1, 9000, 0, -1, least, 9001, most, 1<<32 + 1} {
			for _, when := range []int{at, lastTime, at - 1, -1, least, lastTime + 1, most} {
				want := later
				switch {
				case when < at || when > lastTime:
					want = api.ErrSpan
				case size < 1 || size > 9000:
					want = api.ErrSize
				}
				if want == api.OK {
					continue
				}
				if seq, wrong := b.Send(size, when); seq != 0 || wrong != want {
					t.Fatalf("%d at %d: %d, %d, not %d", size, when, seq, wrong, want)
				}
			}
		}
		looks(t, b, free, mis...)
	}
	b := made(t, 2, 5, 50)
	begins(t, b, 3, 0)
	refuses(b, 3, api.OK)
	sends(t, b, 9000, 4, 5)
	refuses(b, 4, api.OK)
	sends(t, b, 1, 4, 6)
	refuses(b, 4, api.ErrFull)
	ends(t, b.Ack, 9, api.Pkt{Seq: 6, Size: 1, Sent: 4})
	refuses(b, 9, api.OK)
	sends(t, b, 40, 9, 7)
	refuses(b, 9, api.ErrFull)

	last := made(t, 1, end-1, 50)
	begins(t, last, 0, 0)
	sends(t, last, 1, 0, end-1)
	refuses(last, 0, api.ErrFull)
	ends(t, last.Lose, 0, api.Pkt{Seq: end - 1, Size: 1})
	refuses(last, 0, api.ErrShut)
	begins(t, last, 1, 1)
	refuses(last, 1, api.ErrShut)
}

// An interval has room for so many packets, and the next one has room again.
func TestMostPacketsOfOneInterval(t *testing.T) { // P12.2, P12.3
	for _, spare := range []uint64{0, 5} { // numbers that are left then
		first := end - mostOfOne - spare
		b := made(t, 1, first, mostSpan)
		begins(t, b, 0, 0)
		for n := range uint64(mostOfOne) {
			sends(t, b, 1, 0, first+n)
			ends(t, b.Lose, 0, api.Pkt{Seq: first + n, Size: 1})
		}
		for _, size := range []int{1, 9000} {
			if seq, wrong := b.Send(size, 9); seq != 0 || wrong != api.ErrFull {
				t.Errorf("%d: %d, %d", size, seq, wrong)
			}
		}
		if seq, wrong := b.Send(0, 9); seq != 0 || wrong != api.ErrSize {
			t.Errorf("%d, %d", seq, wrong)
		}
		looks(t, b, 1, api.Mi{To: -1, Sent: mostOfOne, Lost: mostOfOne, Packets: mostOfOne, Drops: mostOfOne})
		begins(t, b, 1, 1)
		if spare > 0 {
			sends(t, b, 1, 1, end-spare)
		} else if seq, wrong := b.Send(1, 1); seq != 0 || wrong != api.ErrShut {
			t.Errorf("%d, %d", seq, wrong)
		}
	}
}

// Now is what the greatest time was of the calls that were OK, whichever they are.
func TestNow(t *testing.T) { // P12.1, P12.2, P12.3, P12.4
	for _, now := range []int{101, 102, 5000, lastTime - 1, lastTime} {
		for i, call := range []func(*Books) api.Errno{
			func(b *Books) api.Errno { _, wrong := b.Begin(now); return wrong },
			func(b *Books) api.Errno { _, wrong := b.Send(1, now); return wrong },
			func(b *Books) api.Errno { _, wrong := b.Ack(0, now); return wrong },
			func(b *Books) api.Errno { _, wrong := b.Lose(0, now); return wrong },
			func(b *Books) api.Errno { _, wrong := b.Expire(now); return wrong },
		} {
			b := made(t, 4, 0, mostSpan)
			begins(t, b, 10, 0)
			sends(t, b, 1, 100, 0)
			sends(t, b, 1, 100, 1)
			over(t, b, 1, 99, 0, -1)
			if wrong := call(b); wrong != api.OK {
				t.Fatalf("call %d at %d: %d", i, now, wrong)
			}
			over(t, b, 1, now-1, 100, lastTime+1)
			if seq, wrong := b.Send(1, now); seq < 2 || wrong != api.OK {
				t.Fatalf("call %d at %d: %d, %d", i, now, seq, wrong)
			}
		}
	}
}

// What is refused leaves now as it was.
func TestRefusedCallsAreNotNow(t *testing.T) { // P12.1, P12.2, P12.3, P12.4
	b := made(t, 1, 8, 100)
	for n := range mostMis {
		begins(t, b, 5, n)
	}
	sends(t, b, 1, 5, 8)
	begin, send, ack, lose, _ := refusals(t, b, 1, 9, 70)
	if begin != api.ErrFull || send != api.ErrFull || ack != api.ErrNone || lose != api.ErrNone {
		t.Errorf("%d, %d, %d, %d", begin, send, ack, lose)
	}
	over(t, b, 8, 4) // 70 was now by Expire alone, which was OK
	over(t, b, 8, 69)

	b = made(t, 1, 8, 100)
	if _, wrong := b.Send(1, 90); wrong != api.ErrShut {
		t.Errorf("%d", wrong)
	}
	begins(t, b, 5, 0)
	for at, call := range []func(at int) api.Errno{
		func(at int) api.Errno { _, wrong := b.Send(0, at); return wrong },
		func(at int) api.Errno { _, wrong := b.Ack(9, at); return wrong },
		func(at int) api.Errno { _, wrong := b.Lose(8, at); return wrong },
		func(at int) api.Errno { b.Take(); b.Mis(); b.Free(); return api.ErrNone },
	} {
		if wrong := call(90 + at); wrong != api.ErrSize && wrong != api.ErrNone {
			t.Errorf("call %d: %d", at, wrong)
		}
		expires(t, b, 5)
	}
	sends(t, b, 1, 5, 8)
	for range 2 {
		if _, wrong := b.Send(1, 90); wrong != api.ErrFull {
			t.Errorf("%d", wrong)
		}
		expires(t, b, 5)
	}
	ends(t, b.Ack, 6, api.Pkt{Seq: 8, Size: 1, Sent: 5})
	for _, how := range []func(uint64, int) (api.Pkt, api.Errno){b.Ack, b.Lose} {
		if p, wrong := how(8, 90); p != (api.Pkt{}) || wrong != api.ErrTwice {
			t.Errorf("%v, %d", p, wrong)
		}
		expires(t, b, 6)
	}
}

// Each end of a way counts in the packet's own interval, not in the one that began last.
func TestEachPacketInItsOwnInterval(t *testing.T) { // P12.4
	b := made(t, 9, 40, 1000)
	for n := range 3 {
		begins(t, b, 100*n, n)
		sends(t, b, 10+n, 100*n+1, uint64(40+2*n))
		sends(t, b, 20+n, 100*n+2, uint64(41+2*n))
	}
	ends(t, b.Ack, 300, api.Pkt{Seq: 42, Mi: 1, Size: 11, Sent: 101})
	ends(t, b.Lose, 301, api.Pkt{Seq: 41, Mi: 0, Size: 20, Sent: 2})
	ends(t, b.Ack, 302, api.Pkt{Seq: 45, Mi: 2, Size: 22, Sent: 202})
	want := []api.Mi{
		{Id: 0, From: 0, To: 100, Sent: 30, Lost: 20, Packets: 2, Drops: 1},
		{Id: 1, From: 100, To: 200, Sent: 32, Acked: 11, Packets: 2, Hits: 1, N: 1, SumT: 1, SumR: 199, SumTT: 1, SumTR: 199, SumRR: 199 * 199},
		{Id: 2, From: 200, To: -1, Sent: 34, Acked: 22, Packets: 2, Hits: 1, N: 1, SumT: 2, SumR: 100, SumTT: 4, SumTR: 200, SumRR: 10000},
	}
	looks(t, b, 6, want...)
	keeps(t, b)
	ends(t, b.Lose, 303, api.Pkt{Seq: 43, Mi: 1, Size: 21, Sent: 102})
	keeps(t, b) // the second one is done, the first one is not
	ends(t, b.Ack, 304, api.Pkt{Seq: 40, Mi: 0, Size: 10, Sent: 1})
	takes(t, b, api.Mi{Id: 0, From: 0, To: 100, Sent: 30, Acked: 10, Lost: 20, Packets: 2, Hits: 1, Drops: 1, N: 1, SumT: 1, SumR: 303, SumTT: 1, SumTR: 303, SumRR: 303 * 303})
	want[1].Lost, want[1].Drops = 21, 1
	looks(t, b, 8, want[1:]...)
	takes(t, b, want[1])
	ends(t, b.Lose, 305, api.Pkt{Seq: 44, Mi: 2, Size: 12, Sent: 201})
	keeps(t, b) // all were told, but it is not closed
	want[2].Lost, want[2].Drops = 12, 1
	looks(t, b, 9, want[2])
	begins(t, b, 306, 3)
	want[2].To = 306
	takes(t, b, want[2])
}

// What is no packet that is on its way is refused, and leaves all as it is.
func TestNoSuchPacket(t *testing.T) { // P12.4
	b := made(t, 4, 10, 50)
	begins(t, b, 0, 0)
	for n := range uint64(4) {
		sends(t, b, 1, 0, 10+n)
	}
	ends(t, b.Ack, 1, api.Pkt{Seq: 10, Size: 1})
	ends(t, b.Lose, 1, api.Pkt{Seq: 12, Size: 1})
	mis := b.Mis()
	for _, how := range []func(uint64, int) (api.Pkt, api.Errno){b.Ack, b.Lose} {
		for _, x := range []struct {
			seq   uint64
			wrong api.Errno
		}{{9, api.ErrNone}, {14, api.ErrNone}, {0, api.ErrNone}, {end, api.ErrNone}, {10, api.ErrTwice}, {12, api.ErrTwice}} {
			if p, wrong := how(x.seq, 2); p != (api.Pkt{}) || wrong != x.wrong {
				t.Errorf("%d: %v, %d", x.seq, p, wrong)
			}
			looks(t, b, 2, mis...)
		}
	}
	expires(t, b, 50, api.Pkt{Seq: 11, Size: 1}, api.Pkt{Seq: 13, Size: 1})
	for seq := range uint64(4) {
		if p, wrong := b.Ack(10+seq, 51); p != (api.Pkt{}) || wrong != api.ErrTwice {
			t.Errorf("%d: %v, %d", seq, p, wrong)
		}
	}
}

func TestExpire(t *testing.T) { // P12.4
	for _, timeout := range []int{1, 2, 50, mostSpan} {
		b := made(t, 9, 0, timeout)
		begins(t, b, 5, 0)
		sends(t, b, 100, 5, 0)
		sends(t, b, 200, 6, 1)
		begins(t, b, 6, 1)
		sends(t, b, 300, 6, 2)
		if timeout > 1 {
			expires(t, b, 4+timeout)
		}
		expires(t, b, 5+timeout, api.Pkt{Seq: 0, Mi: 0, Size: 100, Sent: 5})
		expires(t, b, 5+timeout)
		begins(t, b, 5+timeout, 2)
		keeps(t, b)
		expires(t, b, 6+timeout, api.Pkt{Seq: 1, Mi: 0, Size: 200, Sent: 6}, api.Pkt{Seq: 2, Mi: 1, Size: 300, Sent: 6})
		sends(t, b, 400, 6+timeout, 3)
		looks(t, b, 8, api.Mi{Id: 0, From: 5, To: 6, Sent: 300, Lost: 300, Packets: 2, Drops: 2}, api.Mi{Id: 1, From: 6, To: 5 + timeout, Sent: 300, Lost: 300, Packets: 1, Drops: 1}, api.Mi{Id: 2, From: 5 + timeout, To: -1, Sent: 400, Packets: 1})
		expires(t, b, lastTime, api.Pkt{Seq: 3, Mi: 2, Size: 400, Sent: 6 + timeout})
	}
}

// An account keeps the samples that come first, and none that is longer than a timeout may be.
func TestSamples(t *testing.T) { // P12.4
	b := made(t, 1, 0, mostSpan)
	begins(t, b, 0, 0)
	for n := range mostOfSums + 3 {
		sends(t, b, 2, 10*n, uint64(n))
		ends(t, b.Ack, 10*n+3, api.Pkt{Seq: uint64(n), Size: 2, Sent: 10 * n})
	}
	m := b.Mis()[0]
	if m.Hits != mostOfSums+3 || m.N != mostOfSums || m.SumR != 3*mostOfSums || m.SumT != 10*mostOfSums*(mostOfSums-1)/2 {
		t.Errorf("%v", m)
	}
	far := made(t, 2, 0, 1)
	begins(t, far, 0, 0)
	sends(t, far, 3, mostSpan, 0)
	sends(t, far, 4, mostSpan, 1)
	ends(t, far.Ack, 2*mostSpan, api.Pkt{Seq: 1, Size: 4, Sent: mostSpan})
	one := api.Mi{To: -1, Sent: 7, Acked: 4, Packets: 2, Hits: 1, N: 1, SumT: mostSpan, SumR: mostSpan, SumTT: mostSpan * mostSpan, SumTR: mostSpan * mostSpan, SumRR: mostSpan * mostSpan}
	looks(t, far, 1, one)
	ends(t, far.Ack, 2*mostSpan+1, api.Pkt{Seq: 0, Size: 3, Sent: mostSpan})
	one.Acked, one.Hits = 7, 2
	looks(t, far, 2, one)
}

func TestNilBooks(t *testing.T) { // P12.1
	var b *Books
	for _, at := range []int{0, 1, lastTime, -1, least, lastTime + 1, most} {
		for _, size := range []int{1, 0, -1, 9001} {
			begin, send, ack, lose, expire := refusals(t, b, size, uint64(at), at)
			for i, wrong := range []api.Errno{begin, send, ack, lose, expire} {
				if wrong != api.ErrNil {
					t.Errorf("call %d of %d at %d: %d", i, size, at, wrong)
				}
			}
		}
	}
	keeps(t, b)
	looks(t, b, 0)
}

// Books that were not made have no ledger, so no packet is on its way by them.
func TestBooksThatWereNotMade(t *testing.T) { // P12.1
	b := new(Books)
	keeps(t, b)
	looks(t, b, 0)
	begins(t, b, 3, 0)
	if seq, wrong := b.Send(1, 3); seq != 0 || wrong != api.ErrNil {
		t.Errorf("%d, %d", seq, wrong)
	}
	for _, how := range []func(uint64, int) (api.Pkt, api.Errno){b.Ack, b.Lose} {
		if p, wrong := how(0, 3); p != (api.Pkt{}) || wrong != api.ErrNil {
			t.Errorf("%v, %d", p, wrong)
		}
	}
	expires(t, b, 9)
	looks(t, b, 0, api.Mi{From: 3, To: -1})
}

func TestBooksOfTheirOwn(t *testing.T) { // P12.1, P12.2, P12.3
	b, other := made(t, 2, 5, 10), made(t, 3, 5, 20)
	begins(t, b, 1000, 0)
	sends(t, b, 1, 1000, 5)
	begins(t, other, 2, 0)
	begins(t, other, 3, 1)
	sends(t, other, 9, 3, 5)
	ends(t, other.Ack, 4, api.Pkt{Seq: 5, Mi: 1, Size: 9, Sent: 3})
	takes(t, other, api.Mi{From: 2, To: 3})
	looks(t, b, 1, api.Mi{From: 1000, To: -1, Sent: 1, Packets: 1})
}

// What came out is not changed by what comes later.
func TestListsStayAsTheyAre(t *testing.T) { // P12.1, P12.4
	b := made(t, 4, 0, 10)
	begins(t, b, 0, 0)
	var lists, copies [][]api.Mi
	keep := func() {
		l := b.Mis()
		lists, copies = append(lists, l), append(copies, slices.Clone(l))
	}
	keep()
	for n := range uint64(4) {
		sends(t, b, 1, 1, n)
		keep()
	}
	begins(t, b, 2, 1)
	keep()
	ends(t, b.Ack, 3, api.Pkt{Seq: 2, Size: 1, Sent: 1})
	keep()
	gone, _ := b.Expire(11)
	all := slices.Clone(gone)
	keep()
	b.Take()
	keep()
	for n := range 40 {
		begins(t, b, 12+n, 2+n)
		sends(t, b, 9, 12+n, uint64(4+n))
		b.Lose(uint64(4+n), 12+n)
		keep()
	}
	b.Expire(100)
	for i, l := range lists {
		if !slices.Equal(l, copies[i]) {
			t.Errorf("%d: %v, not %v", i, l, copies[i])
		}
	}
	if !slices.Equal(gone, all) || len(all) != 3 {
		t.Errorf("%v, not %v", gone, all)
	}
}

// random makes the same numbers at each run.
type random uint64

func (r *random) below(n int) int {
	*r = *r*6364136223846793005 + 1442695040888963407
	return int(uint64(*r)>>33) % n
}

// shipped is a packet that was sent, with what became of it, and when.
type shipped struct {
	api.Pkt
	fate, at int
}

const (
	onItsWay = iota
	isAcked
	isLost
)

// plain are books word for word: all packets and intervals that ever were, of which accounts are made anew each time.
type plain struct {
	room, timeout, now, taken int
	first                     uint64
	all                       []shipped
	from                      []int
}

func (x *plain) over(at int) bool { return at < 0 || at > lastTime || at < x.now }

func (x *plain) open() int {
	n := 0
	for _, p := range x.all {
		if p.fate == onItsWay {
			n++
		}
	}
	return n
}

func (x *plain) mi(id int) api.Mi {
	m := api.Mi{Id: id, From: x.from[id], To: -1}
	if id+1 < len(x.from) {
		m.To = x.from[id+1]
	}
	for _, p := range x.all {
		if p.Mi != id {
			continue
		}
		m.Packets++
		m.Sent += p.Size
		switch way, behind := p.at-p.Sent, p.Sent-m.From; p.fate {
		case isLost:
			m.Drops++
			m.Lost += p.Size
		case isAcked:
			m.Hits++
			m.Acked += p.Size
			if way <= mostSpan && behind <= mostSpan {
				m.N++
				m.SumT += behind
				m.SumR += way
				m.SumTT += behind * behind
				m.SumTR += behind * way
				m.SumRR += way * way
			}
		}
	}
	return m
}

func (x *plain) mis() []api.Mi {
	var l []api.Mi
	for id := x.taken; id < len(x.from); id++ {
		l = append(l, x.mi(id))
	}
	return l
}

func (x *plain) begin(at int) (int, api.Errno) {
	switch {
	case x.over(at):
		return 0, api.ErrSpan
	case len(x.from)-x.taken == mostMis:
		return 0, api.ErrFull
	}
	x.now, x.from = at, append(x.from, at)
	return len(x.from) - 1, api.OK
}

func (x *plain) send(size, at int) (uint64, api.Errno) {
	seq := x.first + uint64(len(x.all))
	switch {
	case x.over(at):
		return 0, api.ErrSpan
	case len(x.from) == 0:
		return 0, api.ErrShut
	case size < 1 || size > 9000:
		return 0, api.ErrSize
	case x.open() == x.room:
		return 0, api.ErrFull
	case seq == end:
		return 0, api.ErrShut
	}
	x.now, x.all = at, append(x.all, shipped{Pkt: api.Pkt{Seq: seq, Mi: len(x.from) - 1, Size: size, Sent: at}})
	return seq, api.OK
}

func (x *plain) settle(seq uint64, fate, at int) (api.Pkt, api.Errno) {
	if x.over(at) {
		return api.Pkt{}, api.ErrSpan
	}
	for i, p := range x.all {
		if p.Seq == seq && p.fate != onItsWay {
			return api.Pkt{}, api.ErrTwice
		} else if p.Seq == seq {
			x.all[i].fate, x.all[i].at, x.now = fate, at, at
			return p.Pkt, api.OK
		}
	}
	return api.Pkt{}, api.ErrNone
}

func (x *plain) expire(at int) ([]api.Pkt, api.Errno) {
	if x.over(at) {
		return nil, api.ErrSpan
	}
	x.now = at
	var l []api.Pkt
	for i, p := range x.all {
		if p.fate == onItsWay && p.Sent <= at-x.timeout {
			x.all[i].fate, x.all[i].at = isLost, at
			l = append(l, p.Pkt)
		}
	}
	return l, api.OK
}

func (x *plain) take() (api.Mi, bool) {
	if l := x.mis(); len(l) > 0 && l[0].To >= 0 && l[0].Hits+l[0].Drops == l[0].Packets {
		x.taken++
		return l[0], true
	}
	return api.Mi{}, false
}

// said is what one call answered.
type said struct {
	n     int
	seq   uint64
	p     api.Pkt
	l     []api.Pkt
	m     api.Mi
	ok    bool
	wrong api.Errno
}

func same(a, b said) bool {
	return a.n == b.n && a.seq == b.seq && a.p == b.p && slices.Equal(a.l, b.l) && a.m == b.m && a.ok == b.ok && a.wrong == b.wrong
}

// step does one call, of any kind, to both.
func (r *random) step(b *Books, x *plain, at int) (got, want said) {
	seq := x.first + uint64(len(x.all)) - uint64(r.below(x.room+3))
	switch r.below(12) {
	case 0, 1:
		got.n, got.wrong = b.Begin(at)
		want.n, want.wrong = x.begin(at)
	case 2, 3, 4, 5:
		size := []int{1, 2, 1500, 9000, 0, 9001, 8999, 40, 700, 3}[r.below(10)]
		got.seq, got.wrong = b.Send(size, at)
		want.seq, want.wrong = x.send(size, at)
	case 6, 7:
		got.p, got.wrong = b.Ack(seq, at)
		want.p, want.wrong = x.settle(seq, isAcked, at)
	case 8:
		got.p, got.wrong = b.Lose(seq, at)
		want.p, want.wrong = x.settle(seq, isLost, at)
	case 9:
		got.l, got.wrong = b.Expire(at)
		want.l, want.wrong = x.expire(at)
	default:
		got.m, got.ok = b.Take()
		want.m, want.ok = x.take()
	}
	return got, want
}

// begun are random books, in short or in long steps of time.
func (r *random) begun(t *testing.T) (*Books, *plain, int) {
	room, first := 1+r.below(9), uint64(r.below(50))
	pace := []int{4, 4000, 9000000}[r.below(3)]
	switch r.below(4) {
	case 0:
		first = end - uint64(r.below(30))
	case 1:
		first += 1<<63 - 40 // across the greatest int
	}
	timeout := min(mostSpan, 1+r.below(20*pace))
	return made(t, room, first, timeout), &plain{room: room, first: first, timeout: timeout}, pace
}

func TestAnyCallsInAnyOrder(t *testing.T) { // P12.1, P12.2, P12.3, P12.4, P12.5
	r := random(3)
	seen := map[api.Errno]int{}
	taken, expired := 0, 0
	for range 300 {
		b, x, pace := r.begun(t)
		at := 0
		for range 150 {
			at = x.now + r.below(pace) - r.below(2)*r.below(2)*r.below(2)
			got, want := r.step(b, x, at)
			if !same(got, want) {
				t.Fatalf("room %d, timeout %d, at %d: %v, not %v", x.room, x.timeout, at, got, want)
			}
			looks(t, b, x.room-x.open(), x.mis()...)
			seen[got.wrong]++
			expired += len(got.l)
			if got.ok {
				taken++
			}
		}
	}
	for _, wrong := range []api.Errno{api.OK, api.ErrSize, api.ErrSpan, api.ErrFull, api.ErrNone, api.ErrTwice, api.ErrShut} {
		if seen[wrong] < 50 {
			t.Errorf("error %d: %d", wrong, seen[wrong])
		}
	}
	if taken < 1000 || expired < 1000 {
		t.Errorf("%d taken, %d expired", taken, expired)
	}
}

// Each packet is of one interval, and counted once there; intervals come in order, and each one's sums are what was done.
func TestEachPacketCountsOnce(t *testing.T) { // P12.6
	r := random(4)
	for range 200 {
		room := 1 + r.below(30)
		b := made(t, room, 1000, 40)
		var all []api.Mi
		packets, bytes, hits, came, at := 0, 0, 0, 0, 0
		for range 300 {
			at += r.below(4)
			if size := 1 + r.below(9000); r.below(10) == 0 {
				b.Begin(at)
			} else if _, wrong := b.Send(size, at); wrong == api.OK {
				packets, bytes = packets+1, bytes+size
			}
			for range 2 { // late, twice and from nowhere, too
				if p, wrong := b.Ack(990+uint64(r.below(packets+20)), at); wrong == api.OK {
					hits, came = hits+1, came+p.Size
				}
			}
			b.Lose(990+uint64(r.below(packets+20)), at)
			if r.below(3) == 0 {
				b.Expire(at)
			}
			if m, ok := b.Take(); ok {
				all = append(all, m)
			}
		}
		b.Expire(at + 40)
		b.Begin(at + 41)
		for m, ok := b.Take(); ok; m, ok = b.Take() {
			all = append(all, m)
		}
		looks(t, b, room, api.Mi{Id: len(all), From: at + 41, To: -1})
		for i, m := range all {
			packets, bytes, hits, came = packets-m.Packets, bytes-m.Sent, hits-m.Hits, came-m.Acked
			if m.Id != i || m.Hits+m.Drops != m.Packets || m.Acked+m.Lost != m.Sent || i > 0 && m.From != all[i-1].To {
				t.Fatalf("%d: %v", i, m)
			}
		}
		if packets != 0 || bytes != 0 || hits != 0 || came != 0 {
			t.Fatalf("%d packets, %d bytes, %d hits, %d bytes of them are left", packets, bytes, hits, came)
		}
	}
}

// As soon as a timeout is over, all but the last one can be taken.
func TestATimeoutIsOver(t *testing.T) { // P12.6
	r := random(5)
	for range 200 {
		b, x, pace := r.begun(t)
		for range 100 {
			r.step(b, x, x.now+r.below(pace))
		}
		if begin, _ := b.Begin(x.now); begin == 0 {
			continue
		}
		begun := len(b.Mis())
		if _, wrong := b.Expire(x.now + x.timeout); wrong != api.OK || b.Free() != x.room {
			t.Fatalf("timeout %d: %d, %d", x.timeout, wrong, b.Free())
		}
		for range begun - 1 {
			if _, ok := b.Take(); !ok {
				t.Fatalf("timeout %d: %v", x.timeout, b.Mis())
			}
		}
		keeps(t, b)
		if l := b.Mis(); len(l) != 1 || l[0].To != -1 {
			t.Fatalf("timeout %d: %v", x.timeout, l)
		}
	}
}
