package draw

import (
	"math"
	"math/big"
	"slices"
	"testing"

	"pacemaker/api"
)

const (
	allDraws = 1 << 32 // how many draws there are
	ones     = 1<<64 - 1
	top      = math.MaxInt
	low      = math.MinInt
)

// states are numbers of 64 bits at which shifts, turns and carries differ.
func states() []uint64 {
	l := []uint64{0, 3, 42, 1000003, 3 << 58, ones - 1, 6364136223846793005, 0x9e3779b97f4a7c15, 0x0123456789abcdef}
	for n := range 64 {
		l = append(l, 1<<n, ones<<n, ones>>n)
	}
	slices.Sort(l)
	return slices.Compact(l)
}

func pcgAt(state, inc uint64) api.Source {
	return api.Source{Kind: api.SourcePcg, State: state, Inc: inc}
}

func tapeAt(at int, l ...uint64) api.Source {
	return api.Source{Kind: api.SourceTape, Tape: l, At: at}
}

// dries are sources that make no draws, and hold what those that do go by.
func dries() []api.Source {
	var l []api.Source
	for _, kind := range []int{low, -1, 0, 3, 4, allDraws + 1, allDraws + 2, top} {
		l = append(l, api.Source{Kind: kind}, api.Source{Kind: kind, State: 5, Inc: 7, Tape: []uint64{3, 4}, At: 1})
	}
	for _, at := range []int{low, -2, -1, 2, 3, allDraws, top} {
		l = append(l, api.Source{Kind: api.SourceTape, State: 5, Inc: 7, Tape: []uint64{3, 4}, At: at})
	}
	return append(l, api.Source{Kind: api.SourceTape}, tapeAt(0, []uint64{}...), tapeAt(-1), tapeAt(1))
}

func same(a, b api.Source) bool {
	return a.Kind == b.Kind && a.State == b.State && a.Inc == b.Inc && slices.Equal(a.Tape, b.Tape) && a.At == b.At
}

func bigWord(x uint64) *big.Int { return new(big.Int).SetUint64(x) }

// rest is what is left of x by two to the power of n.
func rest(x *big.Int, n uint) *big.Int {
	return x.Mod(x, new(big.Int).Lsh(big.NewInt(1), n))
}

// drawOf is P6.1 of a generator word for word: its draw, and its State behind it.
func drawOf(state, inc uint64) (int, uint64) {
	ahead := bigWord(state)
	x := new(big.Int).Rsh(ahead, 18)
	x = rest(x.Rsh(x.Xor(x, ahead), 27), 32)
	for range new(big.Int).Rsh(ahead, 59).Int64() {
		lowest := x.Bit(0)
		x.SetBit(x.Rsh(x, 1), 31, lowest)
	}
	next := new(big.Int).Mul(bigWord(6364136223846793005), ahead)
	return int(x.Int64()), rest(next.Add(next, bigWord(inc)), 64).Uint64()
}

func TestNextOfAGenerator(t *testing.T) { // P6.1
	for i, x := range []struct {
		state, inc uint64
		draw       int
		next       uint64
	}{
		{0, 0, 0, 0},
		{0, 1, 0, 1},
		{0, ones, 0, ones},
		{1, 0, 0, 6364136223846793005},
		{42, 109, 0, 9039304369631583695},
		{1 << 27, 5, 1, 7666441553371463685},
		{1 << 45, 0, 262145, 12674712648164573184}, // both bits, the one that is moved and the one that stays
		{1 << 58, 0, 2147491840, 12970366926827028480},
		{1 << 59, 0, 8192, 7493989779944505344}, // turned by 1, and no bit left above the 32
		{1<<59 | 1<<27, 7, 2147491840, 15160431333315969031},
		{1<<59 - 1, 1, 4294950912, 1129853556097712340}, // the greatest that is not turned
		{1 << 63, ones, 4, 9223372036854775807},
		{31 << 59, 0, 1015808, 10952754293765046272}, // turned by 31
		{31<<59 | 1<<27, 2, 1015810, 172451773426958338},
		{ones, 0, 4293918721, 12082607849862758611},
		{ones, ones, 4293918721, 12082607849862758610},
	} {
		if draw, s := Next(pcgAt(x.state, x.inc)); draw != x.draw || s.State != x.next {
			t.Errorf("%d: Next tells %d, and the state %d", i, draw, s.State)
		}
	}
	for _, state := range states() {
		for _, inc := range states() {
			draw, next := drawOf(state, inc)
			if told, s := Next(pcgAt(state, inc)); told != draw || !same(s, pcgAt(next, inc)) {
				t.Fatalf("of %d, %d Next tells %d, not %d; and %v, not the state %d", state, inc, told, draw, s, next)
			}
		}
	}
}

func TestNextOfATape(t *testing.T) { // P6.1
	numbers := []uint64{7, allDraws + 1, 0, allDraws - 1, allDraws, 1<<63 - 1, 1 << 63, ones, 0x0123456789abcdef}
	want := []int{7, 1, 0, 4294967295, 0, 4294967295, 0, 4294967295, 0x89abcdef}
	for at, draw := range want {
		if told, s := Next(tapeAt(at, numbers...)); told != draw || !same(s, tapeAt(at+1, numbers...)) {
			t.Errorf("at %d Next tells %d, and %v", at, told, s)
		}
	}
}

func TestNextKeepsWhatOtherKindsGoBy(t *testing.T) { // P6.1
	s := api.Source{Kind: api.SourcePcg, State: 1 << 63, Inc: ones, Tape: []uint64{3, 4}, At: 1}
	want := s
	want.State = 1<<63 - 1
	if draw, s := Next(s); draw != 4 || !same(s, want) {
		t.Errorf("a generator: %d, %v", draw, s)
	}
	s.Kind, want = api.SourceTape, s
	want.Kind, want.At = api.SourceTape, 2
	if draw, s := Next(s); draw != 4 || !same(s, want) {
		t.Errorf("a tape: %d, %v", draw, s)
	}
}

func TestNextWhereNothingIsDrawn(t *testing.T) { // P6.1
	for _, dry := range dries() {
		if draw, s := Next(dry); draw != 0 || !same(s, dry) {
			t.Errorf("Next of %v is %d, %v", dry, draw, s)
		}
	}
}

func TestPcg(t *testing.T) { // P6.2
	for i, x := range []struct {
		seed, stream, state, inc uint64
		draws                    []int
	}{
		{42, 54, 1753877967969059832, 109, []int{2707161783, 2068313097, 3122475824, 2211639955, 3215226955, 3421331566}}, // the chapter's example
		{0, 0, 6364136223846793006, 1, []int{3837872008, 932996374, 1548399547}},
		{ones, ones, 5718471626015965605, ones, []int{645251143, 2004461623, 2705697299}},
		{1, 1 << 63, 12728272447693586011, 1, []int{3795398737, 17903413, 3545275701}}, // of two times stream the highest bit is lost
		{0, 1<<63 - 1, 12082607849862758610, ones, []int{1148350300, 3419643704, 2653225557}},
		{1 << 63, 1, 9869036634685603210, 3, []int{3953725279, 2463963202, 1135883638}},
	} {
		s := Pcg(x.seed, x.stream)
		if !same(s, pcgAt(x.state, x.inc)) {
			t.Errorf("%d: Pcg tells %v", i, s)
		}
		if l, _ := Many(s, len(x.draws)); !slices.Equal(l, x.draws) {
			t.Errorf("%d: the draws are %v", i, l)
		}
	}
	for _, seed := range states() {
		for _, stream := range states() {
			inc := rest(new(big.Int).SetBit(new(big.Int).Lsh(bigWord(stream), 1), 0, 1), 64).Uint64()
			_, state := drawOf(0, inc)
			_, state = drawOf(rest(new(big.Int).Add(bigWord(state), bigWord(seed)), 64).Uint64(), inc)
			if s := Pcg(seed, stream); !same(s, pcgAt(state, inc)) {
				t.Fatalf("Pcg(%d, %d) is %v, not %d, %d", seed, stream, s, state, inc)
			}
		}
	}
}

func TestTape(t *testing.T) { // P6.2
	for _, l := range [][]uint64{nil, {}, {0}, {ones}, {7, allDraws + 1}, make([]uint64, 1000)} {
		if s := Tape(l); !same(s, tapeAt(0, l...)) {
			t.Errorf("Tape of %v is %v", l, s)
		}
	}
	l := []uint64{7, allDraws + 1}
	if draws, s := Many(Tape(l), 3); !slices.Equal(draws, []int{7, 1, 0}) || !same(s, tapeAt(2, l...)) { // the chapter's example
		t.Errorf("the draws are %v, and then there is %v", draws, s)
	}
}

func TestATapeEndsWhereItsNumbersEnd(t *testing.T) { // P6.2
	l := []uint64{1, 2, 3, 4, 5}
	s := Tape(l[:2])
	longer := append(s.Tape, 9)
	if !slices.Equal(l, []uint64{1, 2, 3, 4, 5}) || !slices.Equal(longer, []uint64{1, 2, 9}) {
		t.Errorf("what is added to a tape is written into what was handed in: %v, %v", l, longer)
	}
	if draws, _ := Many(s, 4); !slices.Equal(draws, []int{1, 2, 0, 0}) {
		t.Errorf("a tape tells what is behind it: %v", draws)
	}
}

func TestBelow(t *testing.T) { // P6.3
	for i, x := range []struct {
		number  uint64
		n, told int
	}{
		{7, 5, 2},
		{4, 5, 4},
		{5, 5, 0},
		{9, 1, 0},
		{0, 9, 0},
		{allDraws + 9, 7, 2}, // the draw is 9
		{allDraws - 1, 2, 1},
		{allDraws - 1, 6, 3},
		{allDraws - 2, allDraws - 1, allDraws - 2},
		{allDraws - 1, allDraws - 1, 0},
		{allDraws - 1, allDraws, allDraws - 1},
		{allDraws - 1, allDraws + 1, allDraws - 1},
		{allDraws - 1, top, allDraws - 1},
		{ones, top, allDraws - 1},
	} {
		if told, s := Below(tapeAt(0, x.number), x.n); told != x.told || !same(s, tapeAt(1, x.number)) {
			t.Errorf("%d: Below(%d) of %d is %d, %v", i, x.n, x.number, told, s)
		}
	}
	s := Pcg(42, 54)
	for i, face := range []int{3, 3, 2, 1, 1, 4} { // what is left of the chapter's draws by 6
		told := 0
		if told, s = Below(s, 6); told != face {
			t.Errorf("draw %d is %d", i, told)
		}
	}
}

func TestBelowWhatIsNotAbove0(t *testing.T) { // P6.3
	for _, n := range []int{0, -1, -5, -allDraws, low + 1, low} {
		for _, s := range []api.Source{tapeAt(0, 9), tapeAt(1, 8, 9), Pcg(42, 54)} {
			if told, then := Below(s, n); told != 0 || !same(then, s) {
				t.Errorf("Below(%d) of %v is %d, %v", n, s, told, then)
			}
		}
	}
}

func TestBetween(t *testing.T) { // P6.3
	for i, x := range []struct {
		number       uint64
		lo, hi, told int
	}{
		{0, 1, 6, 1},
		{5, 1, 6, 6},
		{6, 1, 6, 1},
		{allDraws + 1, -3, 10, -2},
		{3, 7, 8, 8},
		{4, 7, 8, 7},
		{9, -5, -4, -4},
		{9, 0, allDraws - 2, 9}, // the farthest apart
		{allDraws - 1, 0, allDraws - 2, 0},
		{allDraws - 2, 0, allDraws - 2, allDraws - 2},
		{allDraws - 2, -1 << 31, 1<<31 - 2, 1<<31 - 2},
		{1, top - 1, top, top},
		{allDraws - 2, top - allDraws + 2, top, top},
		{1, low, low + 1, low + 1},
		{allDraws - 2, low, low + allDraws - 2, low + allDraws - 2},
	} {
		if told, s := Between(tapeAt(0, x.number), x.lo, x.hi); told != x.told || !same(s, tapeAt(1, x.number)) {
			t.Errorf("%d: Between(%d, %d) of %d is %d, %v", i, x.lo, x.hi, x.number, told, s)
		}
	}
	s := Pcg(42, 54)
	for i, span := range []int{10001, 10050, 10022, 10030, 10025, 10097} { // what is left of the chapter's draws by 101, and 10000
		told := 0
		if told, s = Between(s, 10000, 10100); told != span {
			t.Errorf("draw %d is %d", i, told)
		}
	}
}

func TestBetweenWhatIsNotApartOrTooFar(t *testing.T) { // P6.3
	for _, x := range [][2]int{
		{5, 5}, {5, 4}, {0, 0}, {-1, -1}, {top, low}, {top, top}, {low, low}, {top, top - 1}, {low + 1, low},
		{0, allDraws - 1}, {0, allDraws}, {0, allDraws + 5}, {-1, allDraws - 2}, {-1 << 31, 1<<31 - 1}, {0, top}, {-1, top}, {low, 0}, {low, -1}, {low, 1}, {low, top}, {low + 1, top}, {low, top - 1}, {low, low + allDraws - 1}, {top - allDraws + 1, top},
	} {
		for _, s := range []api.Source{tapeAt(0, 9), tapeAt(1, 8, 9), Pcg(42, 54)} {
			if told, then := Between(s, x[0], x[1]); told != x[0] || !same(then, s) {
				t.Errorf("Between(%d, %d) of %v is %d, %v", x[0], x[1], s, told, then)
			}
		}
	}
}

func TestFlip(t *testing.T) { // P6.3
	numbers := []uint64{0, 1, 1<<31 - 1, 1 << 31, 1<<31 + 1, allDraws - 1, allDraws, allDraws + 1<<31 - 1, allDraws + 1<<31, 1 << 63, ones}
	want := []bool{false, false, false, true, true, true, false, false, true, false, true}
	for at, up := range want {
		if told, s := Flip(tapeAt(at, numbers...)); told != up || !same(s, tapeAt(at+1, numbers...)) {
			t.Errorf("Flip of %d is %t, %v", numbers[at], told, s)
		}
	}
	s := Pcg(42, 54)
	for i, up := range []bool{true, false, true, true, true, true} { // as the chapter's draws are
		told := false
		if told, s = Flip(s); told != up {
			t.Errorf("flip %d is %t", i, told)
		}
	}
}

func TestMany(t *testing.T) { // P6.3
	for _, first := range []api.Source{Pcg(42, 54), Pcg(0, ones), tapeAt(0, make([]uint64, 2000)...), tapeAt(1, 5, 6, 7), {}} {
		for _, n := range []int{1, 2, 3, 10, 999, 1000, 1001, 2000, allDraws, allDraws + 1, top - 1, top} {
			s, draws := first, make([]int, min(n, 1000))
			for i := range draws {
				draws[i], s = Next(s)
			}
			if l, then := Many(first, n); !slices.Equal(l, draws) || !same(then, s) {
				t.Errorf("Many(%d) of a source of Kind %d are %d, %v, and then there is %v", n, first.Kind, len(l), l, then)
			}
		}
	}
}

func TestManyOfNoneAndOfLess(t *testing.T) { // P6.3
	for _, n := range []int{0, -1, -1000, -allDraws, low + 1, low} {
		for _, s := range []api.Source{tapeAt(0, 9), tapeAt(1, 8, 9), Pcg(42, 54), {}} {
			if l, then := Many(s, n); len(l) != 0 || !same(then, s) {
				t.Errorf("Many(%d) of %v is %v, %v", n, s, l, then)
			}
		}
	}
}

func TestWhereNothingIsDrawn(t *testing.T) { // P6.3
	for _, dry := range dries() {
		if told, s := Below(dry, 5); told != 0 || !same(s, dry) {
			t.Errorf("Below of %v is %d, %v", dry, told, s)
		}
		if told, s := Between(dry, -3, 10); told != -3 || !same(s, dry) {
			t.Errorf("Between of %v is %d, %v", dry, told, s)
		}
		if up, s := Flip(dry); up || !same(s, dry) {
			t.Errorf("Flip of %v is %t, %v", dry, up, s)
		}
		if l, s := Many(dry, 3); !slices.Equal(l, []int{0, 0, 0}) || !same(s, dry) {
			t.Errorf("Many of %v are %v, %v", dry, l, s)
		}
	}
}

func TestTheSameSourceGivesTheSameDraws(t *testing.T) { // P6.4
	for _, s := range []api.Source{Pcg(42, 54), Pcg(0, 0), Tape([]uint64{3, 1, 2, ones})} {
		kept := s
		kept.Tape = slices.Clone(s.Tape)
		l, then := Many(s, 100)
		first := slices.Clone(l)
		Many(then, 100)
		if again, after := Many(s, 100); !slices.Equal(again, l) || !slices.Equal(l, first) || !same(after, then) {
			t.Errorf("of %v once %v, then %v", kept, l, again)
		}
		if !same(s, kept) {
			t.Errorf("draws change %v to %v", kept, s)
		}
	}
}

func TestATapesDraws(t *testing.T) { // P6.4
	for n := range 20 {
		var numbers []uint64
		var want []int
		for i := range n {
			numbers = append(numbers, uint64(i)<<33|uint64(3*i+1))
			want = append(want, 3*i+1)
		}
		want = append(want, 0, 0, 0)
		if l, s := Many(Tape(numbers), n+3); !slices.Equal(l, want) || s.At != n {
			t.Errorf("of %v: %v, and then at %d", numbers, l, s.At)
		}
	}
}

func TestRowsOneBehindTheOther(t *testing.T) { // P6.4
	for _, s := range []api.Source{Pcg(42, 54), Pcg(ones, 7), Tape([]uint64{3, 1, 2, ones, 9}), {Kind: 3}} {
		for _, lengths := range [][2]int{{0, 0}, {0, 5}, {5, 0}, {1, 1}, {2, 3}, {4, 9}, {-3, 4}, {300, 700}, {1000, 0}} {
			first, between := Many(s, lengths[0])
			second, behind := Many(between, lengths[1])
			all, end := Many(s, len(first)+len(second))
			if !slices.Equal(slices.Concat(first, second), all) || !same(behind, end) {
				t.Errorf("of %v, %v: not as one row", s, lengths)
			}
		}
	}
}
