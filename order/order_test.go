package order

import (
	"math"
	"slices"
	"testing"

	"pacemaker/api"
	"pacemaker/draw"
)

const (
	allDraws = 1 << 32 // how many draws there are
	ones     = 1<<64 - 1
	top      = math.MaxInt
	low      = math.MinInt
)

// told are the six orders as the chapter tells them, from 0 on.
func told() []string { return []string{"uudd", "udud", "uddu", "duud", "dudu", "dduu"} }

// trialsOf are trials by letters: u is up.
func trialsOf(text string) [4]bool {
	var x [4]bool
	for i := range x {
		x[i] = text[i] == 'u'
	}
	return x
}

func ups(trials []bool) int {
	n := 0
	for _, up := range trials {
		if up {
			n++
		}
	}
	return n
}

func same(a, b api.Source) bool {
	return a.Kind == b.Kind && a.State == b.State && a.Inc == b.Inc && slices.Equal(a.Tape, b.Tape) && a.At == b.At
}

// dries are sources that make no draws, and hold what those that do go by.
func dries() []api.Source {
	numbers := []uint64{ones, ones}
	return []api.Source{
		{},
		{Kind: -1, State: ones, Inc: 7, Tape: numbers},
		{Kind: 3, State: ones, Inc: 7, Tape: numbers, At: 1},
		{Kind: low},
		{Kind: api.SourceTape},
		{Kind: api.SourceTape, Tape: numbers, At: 2},
		{Kind: api.SourceTape, Tape: numbers, At: -1},
		{Kind: api.SourceTape, Tape: numbers, At: top},
	}
}

// sources are of all kinds, with many draws, few, and none.
func sources() []api.Source {
	l := append(dries(), draw.Tape([]uint64{3, ones, 1<<31 - 1, 1 << 31, allDraws, allDraws + 5}), draw.Tape(make([]uint64, 100)))
	for seed := range uint64(50) {
		l = append(l, draw.Pcg(seed, 54), draw.Pcg(ones-seed, seed*seed))
	}
	return l
}

func TestFour(t *testing.T) { // P7.1
	for k, text := range told() {
		if x, e := Four(k); x != trialsOf(text) || e != api.OK {
			t.Errorf("Four(%d) is %v, %d", k, x, e)
		}
	}
}

func TestFourOfNoOrder(t *testing.T) { // P7.1
	for _, k := range []int{-1, -2, -6, 6, 7, 12, allDraws, allDraws + 1, -allDraws + 1, low, low + 1, top - 1, top} {
		if x, e := Four(k); x != [4]bool{} || e != api.ErrArg {
			t.Errorf("Four(%d) is %v, %d", k, x, e)
		}
	}
}

func TestRank(t *testing.T) { // P7.1
	for mask := range 16 {
		x := [4]bool{mask&8 != 0, mask&4 != 0, mask&2 != 0, mask&1 != 0}
		want, wrong := 0, api.ErrForm
		for k, text := range told() {
			if trialsOf(text) == x {
				want, wrong = k, api.OK
			}
		}
		if (ups(x[:]) == 2) != (wrong == api.OK) {
			t.Fatalf("%v is wrongly among the six", x)
		}
		if k, e := Rank(x); k != want || e != wrong {
			t.Errorf("Rank of %v is %d, %d", x, k, e)
		}
	}
}

func TestTrials(t *testing.T) { // P7.2
	numbers := []uint64{0, 1, 2, 3, 4, 5, 6, 11, 6000003, allDraws - 1, allDraws, allDraws + 4, 1 << 63, ones}
	want := []int{0, 1, 2, 3, 4, 5, 0, 5, 3, 3, 0, 4, 0, 3} // a draw has the lowest 32 bits alone
	s := draw.Tape(numbers)
	for at, k := range want {
		x, then := Trials(s)
		if x != trialsOf(told()[k]) || then.At != at+1 || !slices.Equal(then.Tape, numbers) {
			t.Errorf("Trials of %d are %v, and then at %d", numbers[at], x, then.At)
		}
		s = then
	}
	s = draw.Pcg(42, 54)
	for i, k := range []int{3, 3, 2, 1, 1, 4, 5, 3} { // what is left of the generator's draws by 6
		x, then := Trials(s)
		if _, behind := draw.Next(s); x != trialsOf(told()[k]) || !same(then, behind) {
			t.Errorf("draw %d: %v", i, x)
		}
		s = then
	}
}

func TestPair(t *testing.T) { // P7.2
	numbers := []uint64{0, 1, 1<<31 - 1, 1 << 31, 1<<31 + 1, allDraws - 1, allDraws, allDraws + 1<<31 - 1, allDraws + 1<<31, 1 << 63, ones}
	want := []bool{false, false, false, true, true, true, false, false, true, false, true}
	s := draw.Tape(numbers)
	for at, up := range want {
		x, then := Pair(s)
		if x != [2]bool{up, !up} || then.At != at+1 || !slices.Equal(then.Tape, numbers) {
			t.Errorf("Pair of %d is %v, and then at %d", numbers[at], x, then.At)
		}
		s = then
	}
	s = draw.Pcg(42, 54)
	for i, up := range []bool{true, false, true, true, true, true, true, true} { // as the generator's draws are
		x, then := Pair(s)
		if _, behind := draw.Next(s); x != [2]bool{up, !up} || !same(then, behind) {
			t.Errorf("draw %d: %v", i, x)
		}
		s = then
	}
}

func TestTrialsAndPairWhereNothingIsDrawn(t *testing.T) { // P7.2
	for _, dry := range dries() {
		if x, s := Trials(dry); x != trialsOf("uudd") || !same(s, dry) {
			t.Errorf("Trials of %v are %v, %v", dry, x, s)
		}
		if x, s := Pair(dry); x != [2]bool{false, true} || !same(s, dry) {
			t.Errorf("Pair of %v is %v, %v", dry, x, s)
		}
	}
}

// permOf is P7.3 word for word, by Next alone.
func permOf(s api.Source, n int) ([]int, api.Source) {
	var l []int
	for len(l) < n {
		l = append(l, len(l))
	}
	for i := n - 1; i >= 1; i-- {
		told, behind := draw.Next(s)
		at := told % (i + 1)
		one, other := l[i], l[at]
		l[i], l[at], s = other, one, behind
	}
	return l, s
}

func TestPerm(t *testing.T) { // P7.3
	for i, x := range []struct {
		tape []uint64
		n    int
		want []int
		at   int
	}{
		{[]uint64{0, 0, 0}, 4, []int{1, 2, 3, 0}, 3},            // the chapter's example
		{[]uint64{3, 2, 1}, 4, []int{0, 1, 2, 3}, 3},            // each at its own place
		{[]uint64{2, 1, 0, 9}, 4, []int{3, 0, 1, 2}, 3},         // the last number is not drawn
		{[]uint64{7, 5, 3}, 4, []int{0, 1, 2, 3}, 3},            // 7 by 4 leaves 3, 5 by 3 leaves 2, 3 by 2 leaves 1
		{[]uint64{allDraws + 1, 4, 2}, 4, []int{2, 0, 3, 1}, 3}, // a draw has the lowest 32 bits alone
		{[]uint64{1}, 4, []int{3, 2, 0, 1}, 1},                  // the tape ends, and draws are 0
		{nil, 3, []int{1, 2, 0}, 0},                             // no draw at all
		{[]uint64{5}, 1, []int{0}, 0},                           // the least: none is drawn
		{[]uint64{4}, 2, []int{1, 0}, 1},
		{[]uint64{5}, 2, []int{0, 1}, 1},
	} {
		if l, s := Perm(draw.Tape(x.tape), x.n); !slices.Equal(l, x.want) || s.At != x.at || !slices.Equal(s.Tape, x.tape) {
			t.Errorf("%d: Perm tells %v, and then at %d", i, l, s.At)
		}
	}
	for i, x := range []struct {
		seed, stream uint64
		want         []int
		state        uint64
	}{
		{42, 54, []int{1, 2, 0, 3}, 17800363335834976035},
		{42, 54, []int{8, 2, 6, 4, 5, 1, 7, 0, 9, 3}, 10480504684531518621},
		{ones, ones, []int{2, 6, 0, 4, 1, 5, 3, 7}, 18030385171069309158},
		{0, 0, []int{1, 0}, 13885033948157127959},
	} {
		if l, s := Perm(draw.Pcg(x.seed, x.stream), len(x.want)); !slices.Equal(l, x.want) || s.State != x.state {
			t.Errorf("generator %d: Perm tells %v, and the state %d", i, l, s.State)
		}
	}
	for _, s := range sources() {
		for n := 1; n <= 64; n++ {
			want, behind := permOf(s, n)
			if l, then := Perm(s, n); !slices.Equal(l, want) || !same(then, behind) {
				t.Fatalf("Perm(%v, %d) is %v, not %v; and then %v", s, n, l, want, then)
			}
		}
	}
}

func TestPermOfTooFewOrTooMany(t *testing.T) { // P7.3
	for _, n := range []int{0, -1, -2, -64, 65, 66, 128, 1000, allDraws, allDraws + 3, -allDraws + 3, low, low + 4, top - 1, top} {
		for _, s := range sources() {
			if l, then := Perm(s, n); len(l) != 0 || !same(then, s) {
				t.Fatalf("Perm(%v, %d) is %v, %v", s, n, l, then)
			}
		}
	}
}

func TestPermsStayAsTheyAre(t *testing.T) { // P7.3
	tape := []uint64{4, 0, 2, 1}
	s := draw.Tape(tape)
	first, then := Perm(s, 5)
	kept := slices.Clone(first)
	for _, later := range []api.Source{then, draw.Tape([]uint64{1, 1, 1})} {
		if Perm(later, 5); !slices.Equal(first, kept) {
			t.Errorf("once %v, then %v", kept, first)
		}
	}
	if again, _ := Perm(s, 5); !slices.Equal(again, kept) {
		t.Errorf("once %v, again %v", kept, again)
	}
	if !slices.Equal(tape, []uint64{4, 0, 2, 1}) || s.At != 0 {
		t.Errorf("the tape is %v, at %d", tape, s.At)
	}
}

func TestRankTurnsFourBack(t *testing.T) { // P7.4
	for k := range 6 {
		x, _ := Four(k)
		if told, e := Rank(x); told != k || e != api.OK {
			t.Errorf("Rank of Four(%d) is %d, %d", k, told, e)
		}
	}
}

func TestHalfGoUp(t *testing.T) { // P7.4
	for k := range 6 {
		if x, _ := Four(k); ups(x[:]) != 2 {
			t.Errorf("Four(%d) is %v", k, x)
		}
	}
	for _, s := range sources() {
		if x, _ := Trials(s); ups(x[:]) != 2 {
			t.Errorf("Trials of %v are %v", s, x)
		}
		if x, _ := Pair(s); ups(x[:]) != 1 {
			t.Errorf("Pair of %v is %v", s, x)
		}
	}
}

func TestEachNumberStandsOnce(t *testing.T) { // P7.4
	for _, s := range sources() {
		for n := 1; n <= 64; n++ {
			l, _ := Perm(s, n)
			told := slices.Clone(l)
			slices.Sort(l)
			for i, number := range l {
				if len(l) != n || i != number {
					t.Fatalf("Perm(%v, %d) is %v", s, n, told)
				}
			}
		}
	}
}

// Of all draws that differ by what is left of them, each leads to another order.
func TestEachOrderIsDrawnOnce(t *testing.T) { // P7.3, P7.4
	seen := map[[5]int]bool{}
	for k := range uint64(120) {
		l, _ := Perm(draw.Tape([]uint64{k % 5, k / 5 % 4, k / 20 % 3, k / 60 % 2}), 5)
		if len(l) != 5 || seen[[5]int(l)] {
			t.Fatalf("by %d: %v", k, l)
		}
		seen[[5]int(l)] = true
	}
}
