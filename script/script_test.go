package script

import (
	"math"
	"slices"
	"testing"

	"pacemaker/api"
)

const (
	most  = math.MaxInt
	least = math.MinInt
)

// op is a step.
func op(kind, who, v int) api.Op { return api.Op{Kind: kind, Who: who, V: v} }

// edges are 0, the ends of all kinds, what is beside them, and what the same bytes would stand for.
func edges() []int {
	l := []int{least, least + 1, most - 1, most}
	for _, n := range []int{0, 3, 7, 8, 63, 64, 127, 255, 256, 256 + 7, 512, 1 << 15, 1 << 16, 1 << 31, 1 << 32, 1<<32 + 256, 1 << 62} {
		for beside := -1; beside <= 1; beside++ {
			l = append(l, n+beside, -n+beside)
		}
	}
	slices.Sort(l)
	return slices.Compact(l)
}

// fewest and greatest are numbers of senders that mean 1, and 64.
func fewest() []int { return []int{1, 0, -1, -2, -63, -64, -256, -1 << 32, least, least + 1} }

func greatest() []int {
	return []int{64, 65, 66, 127, 128, 255, 256, 257, 1<<32 + 1, 1 << 62, most - 1, most}
}

// numbers are all numbers of senders, and some beyond both ends.
func numbers() []int {
	l := append(fewest(), greatest()...)
	for many := 2; many < 64; many++ {
		l = append(l, many)
	}
	return l
}

// manyOf is what the chapter says of many.
func manyOf(many int) int {
	if many < 1 {
		return 1
	}
	if many > 64 {
		return 64
	}
	return many
}

// isOf is what the chapter calls a step that may be, word for word.
func isOf(many int, x api.Op) bool {
	return x.Kind >= 0 && x.Kind <= 7 && x.Who >= 0 && x.Who <= manyOf(many)-1 && x.V >= 0 && x.V <= 255
}

// decodeOf is P30.1 word for word.
func decodeOf(many int, b string) []api.Op {
	for len(b)%3 != 0 {
		b += "\x00"
	}
	var l []api.Op
	for ; b != ""; b = b[3:] {
		l = append(l, op(int(b[0])%8, int(b[1])%manyOf(many), int(b[2])))
	}
	return l
}

// encodeOf is P30.2 word for word.
func encodeOf(l []api.Op) (string, api.Errno) {
	told := ""
	for _, x := range l {
		if !isOf(64, x) {
			return "", api.ErrArg
		}
		told += string([]byte{byte(x.Kind), byte(x.Who), byte(x.V)})
	}
	return told, api.OK
}

// encoded are the bytes of steps that may be.
func encoded(t *testing.T, l []api.Op) string {
	t.Helper()
	b, wrong := Encode(l)
	if wrong != api.OK {
		t.Fatalf("%v: %d", l, wrong)
	}
	return b
}

// random makes the same numbers at each run.
type random uint64

func (r *random) below(n int) int {
	*r = *r*6364136223846793005 + 1442695040888963407
	return int(uint64(*r)>>33) % n
}

func (r *random) bytes(many int) string {
	b := make([]byte, many)
	for i := range b {
		b[i] = byte(r.below(256))
	}
	return string(b)
}

// number is one of those that may be, or now and then one of the edges.
func (r *random) number(below, often int) int {
	if r.below(often) == 0 {
		return edges()[r.below(len(edges()))]
	}
	return r.below(below)
}

// op is a step that may be of so many senders.
func (r *random) op(many int) api.Op { return op(r.below(8), r.below(many), r.below(256)) }

func (r *random) ops(long, many int) []api.Op {
	l := make([]api.Op, long)
	for i := range l {
		l[i] = r.op(many)
	}
	return l
}

// wild is a step that may be, or, each so often for each of its numbers, may not.
func (r *random) wild(often int) api.Op {
	return op(r.number(8, often), r.number(64, often), r.number(256, often))
}

// wildOnes are steps of which mostly all may be, or of which many may not.
func (r *random) wildOnes(long int) []api.Op {
	l := make([]api.Op, long)
	often := []int{2, 20, 200}[r.below(3)]
	for i := range l {
		l[i] = r.wild(often)
	}
	return l
}

// beyond are steps that may not be, of 64 senders, each by one number alone.
func beyond() []api.Op {
	var l []api.Op
	for _, n := range edges() {
		for _, x := range []api.Op{op(n, 63, 255), op(7, n, 255), op(7, 63, n), op(n, 0, 0), op(0, n, 9), op(1, n, 9), op(0, 0, n), op(1, 0, n)} {
			if !isOf(64, x) {
				l = append(l, x)
			}
		}
	}
	return l
}

func TestTheChaptersExamples(t *testing.T) { // P30.1, P30.3
	if l := Decode(2, "\x09\x05\x07\x10"); !slices.Equal(l, []api.Op{{Kind: 1, Who: 1, V: 7}, {}}) {
		t.Errorf("%v", l)
	}
	if span := Span(op(0, 0, 9)); span != 100 {
		t.Errorf("%d", span)
	}
	if size := Size(op(1, 0, 255)); size != 8989 {
		t.Errorf("%d", size)
	}
}

func TestDecode(t *testing.T) { // P30.1
	for _, s := range []struct {
		many int
		b    string
		want []api.Op
	}{
		{5, "", nil},
		{5, "\x00\x00\x00", []api.Op{{}}},
		{5, "\x07\x04\xff", []api.Op{op(7, 4, 255)}},
		{5, "\x08\x05\xff", []api.Op{op(0, 0, 255)}},
		{5, "\x0f\x09\x80", []api.Op{op(7, 4, 128)}},
		{5, "\xff\xff\xff", []api.Op{op(7, 0, 255)}},
		{1, "\xfe\xff\x7f", []api.Op{op(6, 0, 127)}},
		{63, "\xf9\xff\x01", []api.Op{op(1, 3, 1)}},
		{64, "\xf8\xff\x01", []api.Op{op(0, 63, 1)}},
		{9, "\x01\x02\x03\x04\x05\x06\x07\x08\x09", []api.Op{op(1, 2, 3), op(4, 5, 6), op(7, 8, 9)}},
		{9, "\x09\x08\x07\x06\x05\x04\x03\x02\x01", []api.Op{op(1, 8, 7), op(6, 5, 4), op(3, 2, 1)}},
		{9, "\x02\x02\x02\x02\x02\x02", []api.Op{op(2, 2, 2), op(2, 2, 2)}}, // the same one twice is two
		{200, "a\u00e9b", []api.Op{op(1, 0xc3%64, 0xa9), op(2, 0, 0)}},      // bytes, not letters
	} {
		if l := Decode(s.many, s.b); !slices.Equal(l, s.want) {
			t.Errorf("%d: %q: %v, not %v", s.many, s.b, l, s.want)
		}
	}
}

func TestDecodeWhatIsLeftBehindThrees(t *testing.T) { // P30.1, P30.4
	const b = "\x01\x02\x03\x04\x05\x06\x07\x08\x09"
	want := []api.Op{op(1, 2, 3), op(4, 5, 6), op(7, 8, 9)}
	for long := range len(b) + 1 {
		l := slices.Clone(want[:long/3])
		switch long % 3 {
		case 1:
			l = append(l, op(want[long/3].Kind, 0, 0))
		case 2:
			l = append(l, op(want[long/3].Kind, want[long/3].Who, 0))
		}
		if told := Decode(64, b[:long]); !slices.Equal(told, l) { // what stands behind it in the same memory does not count
			t.Errorf("%d: %v, not %v", long, told, l)
		}
	}
}

func TestDecodeEachByte(t *testing.T) { // P30.1
	for n := range 256 {
		b := byte(n)
		for _, s := range []struct {
			b    []byte
			want api.Op
		}{
			{[]byte{b, 0, 0}, op(n&7, 0, 0)},
			{[]byte{0, b, 0}, op(0, n&63, 0)},
			{[]byte{0, 0, b}, op(0, 0, n)},
			{[]byte{b, 255, 255}, op(n&7, 63, 255)},
			{[]byte{255, b, 255}, op(7, n&63, 255)},
			{[]byte{255, 255, b}, op(7, 63, n)},
			{[]byte{b}, op(n&7, 0, 0)},
			{[]byte{255, b}, op(7, n&63, 0)},
		} {
			if l := Decode(64, string(s.b)); !slices.Equal(l, []api.Op{s.want}) {
				t.Errorf("%v: %v, not %v", s.b, l, s.want)
			}
		}
	}
}

func TestDecodeOfAllNumbersOfSenders(t *testing.T) { // P30.1
	for _, many := range numbers() {
		for n := range 256 {
			if l := Decode(many, string([]byte{3, byte(n), 200})); !slices.Equal(l, []api.Op{op(3, n%manyOf(many), 200)}) {
				t.Errorf("%d: %d: %v", many, n, l)
			}
		}
	}
}

func TestBeyondBothEndsTheNearerOneCounts(t *testing.T) { // P30.1, P30.2
	r := random(1)
	for range 50 {
		b, x := r.bytes(r.below(40)), r.wild(4)
		for _, many := range fewest() {
			if l := Decode(many, b); !slices.Equal(l, Decode(1, b)) || Is(many, x) != Is(1, x) {
				t.Errorf("%d: %q: %v; %v", many, b, l, x)
			}
		}
		for _, many := range greatest() {
			if l := Decode(many, b); !slices.Equal(l, Decode(64, b)) || Is(many, x) != Is(64, x) {
				t.Errorf("%d: %q: %v; %v", many, b, l, x)
			}
		}
	}
}

func TestDecodeWordForWord(t *testing.T) { // P30.1
	r := random(30)
	for range 30000 {
		b := r.bytes(r.below(50))
		many := r.number(70, 10)
		if l, want := Decode(many, b), decodeOf(many, b); !slices.Equal(l, want) {
			t.Fatalf("%d: %q: %v, not %v", many, b, l, want)
		}
	}
	for _, long := range []int{1<<16 - 1, 1 << 16, 1<<16 + 1, 3000000, 3000001, 3000002} {
		b := r.bytes(long)
		if !slices.Equal(Decode(11, b), decodeOf(11, b)) {
			t.Errorf("%d bytes", long)
		}
	}
}

func TestEncode(t *testing.T) { // P30.2
	for _, s := range []struct {
		l    []api.Op
		want string
	}{
		{nil, ""},
		{[]api.Op{}, ""},
		{[]api.Op{{}}, "\x00\x00\x00"},
		{[]api.Op{op(7, 63, 255)}, "\x07\x3f\xff"},
		{[]api.Op{op(1, 2, 3)}, "\x01\x02\x03"},
		{[]api.Op{op(1, 2, 128), op(4, 5, 200)}, "\x01\x02\x80\x04\x05\xc8"},
		{[]api.Op{op(4, 5, 6), op(1, 2, 3), op(4, 5, 6)}, "\x04\x05\x06\x01\x02\x03\x04\x05\x06"},
	} {
		if b := encoded(t, s.l); b != s.want {
			t.Errorf("%v: %q, not %q", s.l, b, s.want)
		}
	}
}

func TestEncodeEachStepThatMayBe(t *testing.T) { // P30.2, P30.4
	for kind := range 8 {
		for who := range 64 {
			for v := range 256 {
				x := op(kind, who, v)
				b := encoded(t, []api.Op{x})
				if b != string([]byte{byte(kind), byte(who), byte(v)}) || !Is(64, x) || !slices.Equal(Decode(64, b), []api.Op{x}) {
					t.Fatalf("%v: %q", x, b)
				}
			}
		}
	}
}

func TestEncodeWhatMayNotBe(t *testing.T) { // P30.2
	r := random(2)
	for _, x := range beyond() {
		for _, l := range [][]api.Op{{x}, {x, {}}, {{}, x}, {op(7, 63, 255), x, op(1, 2, 3)}, append(r.ops(300, 64), x)} {
			if b, wrong := Encode(l); b != "" || wrong != api.ErrArg {
				t.Errorf("%v: %q, %d", x, b, wrong)
			}
		}
	}
}

func TestEncodeWordForWord(t *testing.T) { // P30.2
	r := random(3)
	right, wrong := 0, 0
	for range 20000 {
		l := r.wildOnes(r.below(20))
		b, is := Encode(l)
		want, told := encodeOf(l)
		if b != want || is != told {
			t.Fatalf("%v: %q, %d, not %q, %d", l, b, is, want, told)
		}
		if len(l) > 0 && is == api.OK {
			right++
		} else if len(l) > 0 {
			wrong++
		}
	}
	if right < 3000 || wrong < 3000 {
		t.Errorf("%d, %d", right, wrong)
	}
}

func TestIs(t *testing.T) { // P30.2
	for _, many := range numbers() {
		last := manyOf(many) - 1
		for _, x := range []api.Op{{}, op(7, last, 255), op(7, 0, 0), op(0, last, 0), op(0, 0, 255), op(3, last/2, 100)} {
			if !Is(many, x) {
				t.Errorf("%d: %v", many, x)
			}
		}
		for _, x := range []api.Op{op(8, 0, 0), op(-1, 0, 0), op(0, last+1, 0), op(0, -1, 0), op(0, 0, 256), op(0, 0, -1), op(8, last+1, 256), op(-1, -1, -1)} {
			if Is(many, x) {
				t.Errorf("%d: %v", many, x)
			}
		}
		for _, x := range beyond() {
			if Is(many, x) {
				t.Errorf("%d: %v", many, x)
			}
		}
	}
}

func TestIsWordForWord(t *testing.T) { // P30.2
	for _, many := range append(edges(), numbers()...) {
		for _, n := range edges() {
			for _, x := range []api.Op{op(n, 0, 0), op(0, n, 0), op(0, 0, n), op(n, n, n), op(7, n, 255)} {
				if Is(many, x) != isOf(many, x) {
					t.Errorf("%d: %v", many, x)
				}
			}
		}
	}
}

func TestSpanAndSize(t *testing.T) { // P30.3
	span, size := 0, 64
	for v := range 256 {
		span += 2*v + 1 // the squares are the sums of what is odd
		for kind := range 8 {
			for _, who := range []int{0, 1, 31, 63} {
				wantSpan, wantSize := 0, 0
				switch kind {
				case 0:
					wantSpan = span
				case 1:
					wantSize = size
				}
				x := op(kind, who, v)
				if Span(x) != wantSpan || Size(x) != wantSize {
					t.Errorf("%v: %d, %d, not %d, %d", x, Span(x), Size(x), wantSpan, wantSize)
				}
			}
		}
		size += 35
	}
	if Span(op(0, 0, 0)) != 1 || Span(op(0, 0, 255)) != 65536 || Size(op(1, 0, 0)) != 64 {
		t.Errorf("%d, %d, %d", Span(op(0, 0, 0)), Span(op(0, 0, 255)), Size(op(1, 0, 0)))
	}
}

func TestSpanAndSizeOfWhatMayNotBe(t *testing.T) { // P30.3
	for _, x := range beyond() {
		if Span(x) != 0 || Size(x) != 0 {
			t.Errorf("%v: %d, %d", x, Span(x), Size(x))
		}
	}
}

func TestCount(t *testing.T) { // P30.3
	for _, s := range []struct {
		l    []api.Op
		want [8]int
	}{
		{nil, [8]int{}},
		{[]api.Op{}, [8]int{}},
		{[]api.Op{{}}, [8]int{1}},
		{[]api.Op{op(7, 0, 0), op(7, 1, 2), op(7, 0, 0)}, [8]int{7: 3}},
		{[]api.Op{op(0, 9, 1), op(1, 9, 2), op(2, 9, 3), op(3, 9, 4), op(4, 9, 5), op(5, 9, 6), op(6, 9, 7), op(7, 9, 8)}, [8]int{1, 1, 1, 1, 1, 1, 1, 1}},
		{[]api.Op{op(3, 64, 0), op(3, -1, 0), op(3, 0, 256), op(3, 0, -1), op(3, most, least)}, [8]int{3: 5}}, // they are of a kind
		{[]api.Op{op(8, 0, 0), op(-1, 0, 0), op(2, 0, 0), op(9, 0, 0), op(256, 0, 0), op(most, 0, 0), op(least, 0, 0)}, [8]int{2: 1}},
	} {
		if n := Count(s.l); n != s.want {
			t.Errorf("%v: %v, not %v", s.l, n, s.want)
		}
	}
	for _, kind := range edges() {
		var want [8]int
		if kind >= 0 && kind <= 7 {
			want[kind] = 2
		}
		if n := Count([]api.Op{op(kind, 1, 1), op(kind, -1, 999)}); n != want {
			t.Errorf("%d: %v, not %v", kind, n, want)
		}
	}
}

func TestCountWordForWord(t *testing.T) { // P30.3
	r := random(4)
	for range 2000 {
		l := r.wildOnes(r.below(100))
		n := Count(l)
		for kind := range 8 {
			want := len(slices.DeleteFunc(slices.Clone(l), func(x api.Op) bool { return x.Kind != kind }))
			if n[kind] != want {
				t.Fatalf("%v: of %d %d, not %d", l, kind, n[kind], want)
			}
		}
	}
}

func TestAllBytesAreStepsThatMayBe(t *testing.T) { // P30.4
	r := random(5)
	for _, many := range numbers() {
		for long := range 100 {
			b := r.bytes(long)
			l := Decode(many, b)
			if want := int(math.Ceil(float64(long) / 3)); len(l) != want {
				t.Fatalf("%d of %d bytes, not %d", len(l), long, want)
			}
			counted := 0
			for _, n := range Count(l) {
				counted += n
			}
			if counted != len(l) {
				t.Errorf("%d: %q: %d are counted", many, b, counted)
			}
			for _, x := range l {
				if !Is(many, x) || x.Kind != api.OpWait && Span(x) != 0 || x.Kind != api.OpSend && Size(x) != 0 || Size(x) > api.MaxPacket {
					t.Fatalf("%d: %q: %v", many, b, x)
				}
			}
		}
	}
}

func TestWhatWasEncodedIsDecodedAgain(t *testing.T) { // P30.4
	r := random(6)
	for _, many := range numbers() {
		for range 100 {
			l := r.ops(r.below(60), manyOf(many))
			b := encoded(t, l)
			if told := Decode(many, b); len(b) != 3*len(l) || !slices.Equal(told, l) {
				t.Fatalf("%d: %v, not %v", many, told, l)
			}
			// As bytes they may be others; as steps they are the same ones.
			l = Decode(many, r.bytes(r.below(60)))
			if told := Decode(many, encoded(t, l)); !slices.Equal(told, l) {
				t.Fatalf("%d: %v, not %v", many, told, l)
			}
		}
	}
}

func TestBytesBehindOneAnother(t *testing.T) { // P30.4
	r := random(7)
	for range 3000 {
		many := r.number(70, 10)
		b, then := r.bytes(3*r.below(20)), r.bytes(r.below(50))
		if l, want := Decode(many, b+then), append(Decode(many, b), Decode(many, then)...); !slices.Equal(l, want) {
			t.Fatalf("%d: %q, %q: %v, not %v", many, b, then, l, want)
		}
		l, more := r.ops(r.below(20), 64), r.ops(r.below(20), 64)
		if got, want := encoded(t, slices.Concat(l, more)), encoded(t, l)+encoded(t, more); got != want {
			t.Fatalf("%v, %v: %q, not %q", l, more, got, want)
		}
	}
}

func TestWhatIsHandedInAndCameOutStays(t *testing.T) { // R2
	r := random(8)
	for range 200 {
		l := r.wildOnes(r.below(20))
		was := slices.Clone(l)
		Encode(l)
		Count(l)
		if !slices.Equal(l, was) {
			t.Fatalf("%v, not %v", l, was)
		}
		b := r.bytes(1 + r.below(30))
		told := Decode(9, b)
		was = slices.Clone(told)
		for i := range Decode(9, b) { // another list, with memory of its own
			Decode(9, b)[i] = op(-1, -1, -1)
		}
		Decode(9, r.bytes(30))
		if !slices.Equal(told, was) || !slices.Equal(Decode(9, b), was) {
			t.Fatalf("%v, not %v", told, was)
		}
	}
}
