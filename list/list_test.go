package list

import (
	"fmt"
	"math"
	"math/rand"
	"slices"
	"testing"
)

// entry is a value with its handle.
type entry[T any] struct {
	h int
	v T
}

// model is the chapter's words, plainly: the entries in order, and the last handle that was given.
type model[T any] struct {
	row   []entry[T]
	given int
}

// find is where a handle stands in the row, or -1.
func (m *model[T]) find(h int) int {
	return slices.IndexFunc(m.row, func(e entry[T]) bool { return e.h == h })
}

// put is a new entry at that place of the row.
func (m *model[T]) put(i int, v T) int {
	m.given++
	m.row = slices.Insert(m.row, i, entry[T]{m.given, v})
	return m.given
}

func (m *model[T]) push(v T) int { return m.put(len(m.row), v) }

func (m *model[T]) before(h int, v T) int {
	if i := m.find(h); i >= 0 {
		return m.put(i, v)
	}
	return 0
}

func (m *model[T]) get(h int) (T, bool) {
	if i := m.find(h); i >= 0 {
		return m.row[i].v, true
	}
	var none T
	return none, false
}

func (m *model[T]) remove(h int) (T, bool) {
	v, ok := m.get(h)
	if i := m.find(h); i >= 0 {
		m.row = slices.Delete(m.row, i, i+1)
	}
	return v, ok
}

// handle is the handle at a place of the row, 0 beyond its ends.
func (m *model[T]) handle(i int) int {
	if i < 0 || i >= len(m.row) {
		return 0
	}
	return m.row[i].h
}

func (m *model[T]) next(h int) int {
	i := m.find(h)
	if h != 0 && i < 0 {
		return 0
	}
	return m.handle(i + 1)
}

func (m *model[T]) prev(h int) int {
	i := m.find(h)
	if h == 0 {
		i = len(m.row)
	}
	return m.handle(i - 1)
}

// far is handles that there never are.
var far = []int{-1, -2, -3, math.MinInt, math.MinInt + 1, math.MinInt32, math.MaxInt, math.MaxInt - 1, 1 << 32, 1<<32 + 1, 1<<32 + 2, 1 << 62}

// handles is all handles that were given, 0, the next ones, and those that there never are.
func handles(given int) []int {
	l := slices.Clone(far)
	for h := 0; h <= given+3; h++ {
		l = append(l, h)
	}
	return l
}

// entriesOf is what All tells, as far as the limit.
func entriesOf[T any](l *List[T], limit int) []entry[T] {
	var got []entry[T]
	for h, v := range l.All() {
		if got = append(got, entry[T]{h, v}); len(got) == limit {
			break
		}
	}
	return got
}

// wantAsked wants of all calls that ask for something what the model has.
func wantAsked[T comparable](t *testing.T, l *List[T], m *model[T], what string) {
	t.Helper()
	if got := l.Len(); got != len(m.row) {
		t.Fatalf("%s: Len is %d, want %d", what, got, len(m.row))
	}
	for _, h := range handles(m.given) {
		v, ok := l.Get(h)
		if wv, wok := m.get(h); v != wv || ok != wok {
			t.Fatalf("%s: Get(%d) is %v %v, want %v %v", what, h, v, ok, wv, wok)
		}
		if got, want := l.Next(h), m.next(h); got != want {
			t.Fatalf("%s: Next(%d) is %d, want %d", what, h, got, want)
		}
		if got, want := l.Prev(h), m.prev(h); got != want {
			t.Fatalf("%s: Prev(%d) is %d, want %d", what, h, got, want)
		}
	}
	if got := entriesOf(l, m.given+1); !slices.Equal(got, m.row) {
		t.Fatalf("%s: All is %v, want %v", what, got, m.row)
	}
}

// wantPush, wantBefore and wantRemove do it to a list and its model, and want that they answer alike.
func wantPush[T comparable](t *testing.T, l *List[T], m *model[T], v T) {
	t.Helper()
	if got, want := l.Push(v), m.push(v); got != want {
		t.Fatalf("Push(%v) is %d, want %d", v, got, want)
	}
}

func wantBefore[T comparable](t *testing.T, l *List[T], m *model[T], h int, v T) {
	t.Helper()
	if got, want := l.Before(h, v), m.before(h, v); got != want {
		t.Fatalf("Before(%d, %v) is %d, want %d", h, v, got, want)
	}
}

func wantRemove[T comparable](t *testing.T, l *List[T], m *model[T], h int) {
	t.Helper()
	v, ok := l.Remove(h)
	if wv, wok := m.remove(h); v != wv || ok != wok {
		t.Fatalf("Remove(%d) is %v %v, want %v %v", h, v, ok, wv, wok)
	}
}

// filled is a list to which n values were pushed, 10 times their handles, with its model.
func filled(n int) (*List[int], *model[int]) {
	l, m := New[int](), &model[int]{}
	for h := 1; h <= n; h++ {
		l.Push(10 * h)
		m.push(10 * h)
	}
	return l, m
}

// P9.1: what the chapter's example says.
func TestExample(t *testing.T) {
	l := New[string]()
	a, b := l.Push("a"), l.Push("b")
	c := l.Before(2, "c")
	if a != 1 || b != 2 || c != 3 {
		t.Error("handles:", a, b, c)
	}
	want := []entry[string]{{1, "a"}, {3, "c"}, {2, "b"}}
	if got := entriesOf(l, 9); !slices.Equal(got, want) {
		t.Error("All:", got)
	}
}

// P9.1: a new list has no values, whatever is asked.
func TestNew(t *testing.T) {
	wantAsked(t, New[int](), &model[int]{}, "ints")
	wantAsked(t, New[string](), &model[string]{}, "strings")
	wantAsked(t, New[*int](), &model[*int]{}, "pointers")
	wantAsked(t, New[struct{}](), &model[struct{}]{}, "nothings")
}

// call is a call that changes a list: 'p' Push, 'b' Before, 'r' Remove.
type call struct {
	kind byte
	h    int
}

// callsAt is all calls on a list to which so many handles were given: with each of them, with 0, the next one, and a negative one.
func callsAt(given int) []call {
	l := []call{{'p', 0}}
	for h := -1; h <= given+1; h++ {
		l = append(l, call{'b', h}, call{'r', h})
	}
	return l
}

// play does calls one by one to a new list and its model; the values are the numbers of the calls.
func play(t *testing.T, l []call) (*List[int], *model[int]) {
	t.Helper()
	s, m := New[int](), &model[int]{}
	for i, c := range l {
		switch c.kind {
		case 'p':
			wantPush(t, s, m, 100+i)
		case 'b':
			wantBefore(t, s, m, c.h, 100+i)
		case 'r':
			wantRemove(t, s, m, c.h)
		}
	}
	return s, m
}

// playAll plays all rows of so many calls more.
func playAll(t *testing.T, l []call, more int) int {
	s, m := play(t, l)
	wantAsked(t, s, m, fmt.Sprint(l))
	if more == 0 {
		return 1
	}
	n := 0
	for _, c := range callsAt(m.given) {
		n += playAll(t, append(slices.Clone(l), c), more-1)
	}
	return n
}

// P9.1: all rows of up to five calls, in every order, with handles that are there, that are out, and that never were.
func TestAllCalls(t *testing.T) {
	if n := playAll(t, nil, 5); n < 10000 {
		t.Error("only so many rows:", n)
	}
}

// P9.1: a value ahead of each one of a list, at its ends and between, and of each list's only one.
func TestBeforeEach(t *testing.T) {
	for n := 0; n <= 5; n++ {
		for h := -1; h <= n+1; h++ {
			l, m := filled(n)
			wantBefore(t, l, m, h, 7)
			wantAsked(t, l, m, "Before")
			wantBefore(t, l, m, h, 8)
			wantBefore(t, l, m, n+1, 9)
			wantPush(t, l, m, 6)
			wantAsked(t, l, m, "Before more")
		}
	}
}

// P9.1: values that are pushed one by one ahead of the first one stand the other way round.
func TestBeforeFirst(t *testing.T) {
	l, m := filled(1)
	for i := range 50 {
		wantBefore(t, l, m, l.Next(0), i)
		wantAsked(t, l, m, "Before the first one")
	}
	if l.Next(0) != 51 || l.Prev(0) != 1 {
		t.Error("ends:", l.Next(0), l.Prev(0))
	}
}

// orders hands on all orders of the handles 1 to n.
func orders(n int, f func([]int)) {
	var grow func(l []int)
	grow = func(l []int) {
		if len(l) == n {
			f(l)
			return
		}
		for h := 1; h <= n; h++ {
			if !slices.Contains(l, h) {
				grow(append(slices.Clone(l), h))
			}
		}
	}
	grow(nil)
}

// P9.1: values are taken out in every order, till none is left; behind that new ones go on with the next handles.
func TestRemoveOrders(t *testing.T) {
	for n := range 6 {
		orders(n, func(o []int) {
			l, m := filled(n)
			for _, h := range o {
				wantRemove(t, l, m, h)
				wantAsked(t, l, m, fmt.Sprint("out of ", o, " to ", h))
				wantRemove(t, l, m, h)
				wantBefore(t, l, m, h, 5)
			}
			wantAsked(t, l, m, fmt.Sprint("all out ", o))
			wantPush(t, l, m, 1)
			wantBefore(t, l, m, n+1, 2)
			wantAsked(t, l, m, fmt.Sprint("again behind ", o))
		})
	}
}

// P9.1: handles that there never were, for each call, change nothing and are answered 0, or a zero value and false.
func TestNoHandle(t *testing.T) {
	for n := range 4 {
		l, m := filled(n)
		for _, h := range append(slices.Clone(far), 0, n+1, n+2, n+1000) {
			if got := l.Before(h, 99); got != 0 {
				t.Errorf("%d values: Before(%d) is %d", n, h, got)
			}
			if v, ok := l.Remove(h); v != 0 || ok {
				t.Errorf("%d values: Remove(%d) is %d %v", n, h, v, ok)
			}
			if v, ok := l.Get(h); v != 0 || ok {
				t.Errorf("%d values: Get(%d) is %d %v", n, h, v, ok)
			}
			if h != 0 && (l.Next(h) != 0 || l.Prev(h) != 0) {
				t.Errorf("%d values: beside %d: %d %d", n, h, l.Next(h), l.Prev(h))
			}
			wantAsked(t, l, m, "no handle")
		}
		wantPush(t, l, m, 99)
		wantAsked(t, l, m, "the next handle")
	}
}

// P9.1: handles that are out, for each call: those of the first, the last, the middle, the only value.
func TestOut(t *testing.T) {
	for n := 1; n <= 5; n++ {
		for h := 1; h <= n; h++ {
			l, m := filled(n)
			if v, ok := l.Remove(h); v != 10*h || !ok {
				t.Fatalf("%d values: Remove(%d) is %d %v", n, h, v, ok)
			}
			m.remove(h)
			if v, ok := l.Remove(h); v != 0 || ok {
				t.Errorf("%d values: again Remove(%d) is %d %v", n, h, v, ok)
			}
			if v, ok := l.Get(h); v != 0 || ok {
				t.Errorf("%d values: Get(%d) is %d %v", n, h, v, ok)
			}
			if a, b, c := l.Before(h, 1), l.Next(h), l.Prev(h); a != 0 || b != 0 || c != 0 {
				t.Errorf("%d values: %d is out: %d %d %d", n, h, a, b, c)
			}
			wantAsked(t, l, m, "out")
		}
	}
}

// P9.1: no handle is used again: not that of a value that was out at once, nor behind a list that was emptied.
func TestNoHandleAgain(t *testing.T) {
	l, m := filled(0)
	for n := range 30 {
		for range n {
			wantPush(t, l, m, n)
			wantBefore(t, l, m, l.Next(0), n)
		}
		for l.Len() > 0 {
			wantRemove(t, l, m, l.Prev(0))
		}
		wantAsked(t, l, m, "emptied")
		wantPush(t, l, m, n)
		wantRemove(t, l, m, m.given)
	}
	if want := 30*29 + 30 + 1; l.Push(7) != want || l.Before(want, 8) != want+1 || l.Before(want+2, 9) != 0 {
		t.Error("behind a list that was emptied")
	}
}

// P9.1: a Before that is refused gives no handle away.
func TestRefusedBefore(t *testing.T) {
	l, m := filled(2)
	for range 10 {
		wantBefore(t, l, m, 0, 1)
		wantBefore(t, l, m, 3, 1)
		wantBefore(t, l, m, -1, 1)
	}
	wantBefore(t, l, m, 1, 1)
	wantPush(t, l, m, 2)
	wantAsked(t, l, m, "behind refused ones")
}

// P9.1: Next and Prev lead from end to end, and come to 0 there.
func TestBeside(t *testing.T) {
	for n := range 6 {
		l, _ := filled(n)
		for h := range n + 1 {
			if got, want := l.Next(h), (h+1)%(n+1); got != want {
				t.Errorf("%d values: Next(%d) is %d, want %d", n, h, got, want)
			}
			if got, want := l.Prev(h), (h+n)%(n+1); got != want {
				t.Errorf("%d values: Prev(%d) is %d, want %d", n, h, got, want)
			}
		}
	}
}

// P9.1: Len behind each call.
func TestLen(t *testing.T) {
	l := New[int]()
	for i, step := range []struct {
		do   func()
		want int
	}{
		{func() {}, 0},
		{func() { l.Remove(1) }, 0},
		{func() { l.Before(1, 0) }, 0},
		{func() { l.Push(0) }, 1},
		{func() { l.Push(0) }, 2},
		{func() { l.Before(1, 0) }, 3},
		{func() { l.Before(4, 0) }, 3},
		{func() { l.Get(1) }, 3},
		{func() { l.Next(1) }, 3},
		{func() { l.Prev(1) }, 3},
		{func() { l.All() }, 3},
		{func() { entriesOf(l, 2) }, 3},
		{func() { l.Remove(1) }, 2},
		{func() { l.Remove(1) }, 2},
		{func() { l.Remove(0) }, 2},
		{func() { l.Before(1, 0) }, 2},
		{func() { l.Remove(2) }, 1},
		{func() { l.Remove(3) }, 0},
		{func() { l.Remove(3) }, 0},
		{func() { l.Push(0) }, 1},
	} {
		if step.do(); l.Len() != step.want {
			t.Errorf("step %d: Len is %d, want %d", i, l.Len(), step.want)
		}
	}
}

// P9.1: All to its end, and left early at each turn, whether by break, by return or by the answer false.
func TestAllLeftEarly(t *testing.T) {
	for n := range 6 {
		l, m := filled(n)
		for limit := 1; limit <= n+1; limit++ {
			want := m.row[:min(limit, n)]
			if got := entriesOf(l, limit); !slices.Equal(got, want) {
				t.Errorf("%d values, as far as %d: %v", n, limit, got)
			}
			var got []entry[int]
			l.All()(func(h, v int) bool {
				got = append(got, entry[int]{h, v})
				return len(got) < limit
			})
			if !slices.Equal(got, want) {
				t.Errorf("%d values, false at %d: %v", n, limit, got)
			}
		}
		wantAsked(t, l, m, "left early")
	}
}

// P9.1: All that is left by return, by a jump to an outer loop, or by a panic, leaves the list as it is.
func TestAllLeftOtherwise(t *testing.T) {
	l, m := filled(4)
	first := func() int {
		for h := range l.All() {
			return h
		}
		return 0
	}
	if first() != 1 {
		t.Error("return")
	}
	turns := 0
outer:
	for range l.All() {
		for h := range l.All() {
			if turns++; h == 2 {
				continue outer
			}
			if turns > 6 {
				break outer
			}
		}
	}
	if turns != 7 {
		t.Error("outer loop:", turns)
	}
	func() {
		defer func() {
			if recover() != "enough" {
				t.Error("no panic came through")
			}
		}()
		for range l.All() {
			panic("enough")
		}
	}()
	wantAsked(t, l, m, "left otherwise")
}

// told is the handles that All tells of a list, while something is done at one turn.
func told(l *List[int], turn int, do func(h int)) []int {
	var got []int
	for h := range l.All() {
		if got = append(got, h); len(got) == turn {
			do(h)
		}
		if len(got) > 50 {
			break
		}
	}
	return got
}

// upTo is the handles 1 to n, without one of them.
func upTo(n, without int) []int {
	var l []int
	for h := 1; h <= n; h++ {
		if h != without {
			l = append(l, h)
		}
	}
	return l
}

// P9.1: of a list from which a value is taken out on the way: behind the one just told, or the last one, that isn't told; ahead of it, nothing changes; itself, it ends.
func TestAllRemove(t *testing.T) {
	for n := 1; n <= 6; n++ {
		for turn := 1; turn <= n; turn++ {
			for out := 1; out <= n; out++ {
				l, m := filled(n)
				got := told(l, turn, func(int) { wantRemove(t, l, m, out) })
				want := upTo(n, 0)
				switch {
				case out == turn:
					want = upTo(turn, 0)
				case out > turn:
					want = upTo(n, out)
				}
				if !slices.Equal(got, want) {
					t.Errorf("%d values, at turn %d %d is taken out: %v, want %v", n, turn, out, got, want)
				}
				wantAsked(t, l, m, "taken out on the way")
			}
		}
	}
}

// P9.1: of a list that is emptied on the way, or but for the one just told, no more is told.
func TestAllRemoveAll(t *testing.T) {
	for n := 1; n <= 5; n++ {
		for turn := 1; turn <= n; turn++ {
			for _, keep := range []int{0, turn} {
				l, m := filled(n)
				got := told(l, turn, func(int) {
					for _, h := range upTo(n, keep) {
						wantRemove(t, l, m, h)
					}
				})
				if !slices.Equal(got, upTo(turn, 0)) {
					t.Errorf("%d values, emptied at turn %d but for %d: %v", n, turn, keep, got)
				}
				wantAsked(t, l, m, "emptied on the way")
			}
		}
	}
}

// P9.1: one that was told is taken out and a value is put in where it stood: it ends all the same.
func TestAllRemoveAndPut(t *testing.T) {
	for turn := 1; turn <= 4; turn++ {
		l, m := filled(4)
		got := told(l, turn, func(h int) {
			behind := l.Next(h)
			wantRemove(t, l, m, h)
			wantBefore(t, l, m, behind, 1)
			wantPush(t, l, m, 2)
		})
		if !slices.Equal(got, upTo(turn, 0)) {
			t.Errorf("at turn %d: %v", turn, got)
		}
		wantAsked(t, l, m, "another one in its place")
	}
}

// P9.1: of a list into which a value is put on the way: last or behind the one just told, it is told in its turn; ahead of it, it isn't.
func TestAllPut(t *testing.T) {
	for n := 1; n <= 5; n++ {
		for turn := 1; turn <= n; turn++ {
			l, m := filled(n)
			got := told(l, turn, func(int) { wantPush(t, l, m, 1) })
			if !slices.Equal(got, upTo(n+1, 0)) {
				t.Errorf("%d values, at turn %d one comes last: %v", n, turn, got)
			}
			wantAsked(t, l, m, "one comes last")
			for at := 1; at <= n; at++ {
				l, m := filled(n)
				got := told(l, turn, func(int) { wantBefore(t, l, m, at, 1) })
				want := upTo(n, 0)
				if at > turn {
					want = slices.Insert(want, at-1, n+1)
				}
				if !slices.Equal(got, want) {
					t.Errorf("%d values, at turn %d one comes ahead of %d: %v, want %v", n, turn, at, got, want)
				}
				wantAsked(t, l, m, "one comes between")
			}
		}
	}
}

// P9.1: values that come at each turn: behind they are told as long as they come, ahead never.
func TestAllPutEachTurn(t *testing.T) {
	l, m := filled(1)
	var got []int
	for h := range l.All() {
		if got = append(got, h); h < 20 {
			wantPush(t, l, m, h)
		}
	}
	if !slices.Equal(got, upTo(20, 0)) {
		t.Error("one last at each turn:", got)
	}
	l, m = filled(5)
	got = nil
	for h := range l.All() {
		got = append(got, h)
		wantBefore(t, l, m, h, 1)
	}
	if !slices.Equal(got, upTo(5, 0)) {
		t.Error("one ahead at each turn:", got)
	}
	wantAsked(t, l, m, "at each turn")
}

// P9.1: the last one that was told at a turn when there was none behind: one that comes then is told.
func TestAllBehindLast(t *testing.T) {
	l, m := filled(2)
	got := told(l, 2, func(int) {
		wantPush(t, l, m, 1)
		wantRemove(t, l, m, 3)
		wantPush(t, l, m, 2)
	})
	if !slices.Equal(got, []int{1, 2, 4}) {
		t.Error(got)
	}
}

// P9.1: what All answered is asked later, again, and within itself: each time it goes by the list as it is then.
func TestAllAgain(t *testing.T) {
	l, m := filled(0)
	all := l.All()
	for range all {
		t.Error("no values")
	}
	handlesOf := func() []int {
		var got []int
		for h := range all {
			got = append(got, h)
		}
		return got
	}
	wantPush(t, l, m, 1)
	wantPush(t, l, m, 2)
	wantBefore(t, l, m, 1, 3)
	for range 2 {
		if got := handlesOf(); !slices.Equal(got, []int{3, 1, 2}) {
			t.Error("later:", got)
		}
	}
	for range all {
		break
	}
	wantRemove(t, l, m, 3)
	if got := handlesOf(); !slices.Equal(got, []int{1, 2}) {
		t.Error("behind a break:", got)
	}
	var pairs [][2]int
	for a := range all {
		for b := range all {
			pairs = append(pairs, [2]int{a, b})
		}
	}
	if want := [][2]int{{1, 1}, {1, 2}, {2, 1}, {2, 2}}; !slices.Equal(pairs, want) {
		t.Error("within itself:", pairs)
	}
	wantAsked(t, l, m, "again")
}

// P9.1: two walks at once don't touch each other, unless the list changes.
func TestAllTwo(t *testing.T) {
	l, m := filled(3)
	var outer, inner []int
	for a := range l.All() {
		outer = append(outer, a)
		for b := range l.All() {
			inner = append(inner, b)
			if a == 2 && b == 2 {
				wantRemove(t, l, m, 2)
			}
		}
	}
	if !slices.Equal(outer, []int{1, 2}) || !slices.Equal(inner, []int{1, 2, 3, 1, 2}) {
		t.Error(outer, inner)
	}
}

// P9.1: two lists know nothing of each other, of one type or of two.
func TestTwoLists(t *testing.T) {
	a, am := filled(3)
	b, bm := filled(0)
	c, cm := New[string](), &model[string]{}
	wantAsked(t, b, bm, "b")
	wantPush(t, b, bm, 7)
	wantPush(t, c, cm, "c")
	wantRemove(t, a, am, 1)
	wantBefore(t, b, bm, 1, 8)
	wantRemove(t, b, bm, 3)
	for v := range a.All() {
		wantPush(t, b, bm, v)
	}
	wantRemove(t, c, cm, 2)
	wantPush(t, c, cm, "d")
	wantAsked(t, a, am, "a")
	wantAsked(t, b, bm, "b")
	wantAsked(t, c, cm, "c")
}

// holds puts values into a list of their type, from both sides, takes some out, and holds it against the model.
func holds[T comparable](t *testing.T, values ...T) {
	t.Helper()
	l, m := New[T](), &model[T]{}
	for i, v := range values {
		wantPush(t, l, m, v)
		wantBefore(t, l, m, 1, v)
		wantBefore(t, l, m, l.Prev(0), v)
		wantBefore(t, l, m, -i, v)
		wantAsked(t, l, m, fmt.Sprintf("%T", v))
	}
	for h := 1; h <= 3*len(values); h += 2 {
		wantRemove(t, l, m, h)
		wantRemove(t, l, m, h)
		wantAsked(t, l, m, "taken out")
	}
}

// P9.1: lists of several types, with zero values among them, and like ones.
func TestTypes(t *testing.T) {
	type point struct {
		x, y int
		name string
	}
	one, other := 1, 1
	holds(t, 0, 1, -1, math.MaxInt, math.MinInt, 0)
	holds(t, "", "a", "a", "\x00", "\xff", "")
	holds(t, true, false, true)
	holds[uint8](t, 0, 255)
	holds(t, point{}, point{1, 2, "p"}, point{1, 2, "p"})
	holds(t, [3]int{}, [3]int{1, 2, 3}, [3]int{3, 2, 1})
	holds(t, [0]int{}, [0]int{})
	holds(t, struct{}{}, struct{}{})
	holds(t, &one, &other, nil, &one)
	holds[any](t, nil, 1, "1", point{}, nil, [1]string{"x"})
	holds[error](t, nil, nil)
	holds(t, make(chan int), nil)
	holds(t, New[int](), New[int](), nil)
	holds(t, 1.5, math.Inf(1), math.Copysign(0, -1))
}

// P9.1: a pointer is told as it was put in, and what it points to is nobody's but its own.
func TestPointers(t *testing.T) {
	x, y := 5, 5
	l := New[*int]()
	a, b := l.Push(&x), l.Push(&y)
	x = 6
	if p, _ := l.Get(a); p != &x || *p != 6 {
		t.Error("the first pointer is another one")
	}
	if p, ok := l.Remove(b); p != &y || !ok || y != 5 {
		t.Error("the second pointer is another one")
	}
	if p, ok := l.Get(b); p != nil || ok {
		t.Error("it isn't out")
	}
}

// P9.1: arrays and structs are values: what was put in, or is told, may change without the list.
func TestValues(t *testing.T) {
	l := New[[2]int]()
	v := [2]int{1, 2}
	h := l.Push(v)
	v[0] = 9
	got, _ := l.Get(h)
	got[1] = 9
	for _, w := range l.All() {
		w[0] = 9
	}
	if w, ok := l.Remove(h); w != [2]int{1, 2} || !ok {
		t.Error(w, ok)
	}
}

// P9.1: values that can't be compared, or are unlike themselves, are found by their handles all the same.
func TestNotComparable(t *testing.T) {
	lists := New[[]int]()
	h, none := lists.Push([]int{1, 2}), lists.Push(nil)
	if v, ok := lists.Get(h); !ok || !slices.Equal(v, []int{1, 2}) {
		t.Error("a list:", v, ok)
	}
	if v, ok := lists.Remove(none); v != nil || !ok || lists.Len() != 1 {
		t.Error("no list:", v, ok)
	}
	funcs := New[func() int]()
	a := funcs.Push(func() int { return 7 })
	b := funcs.Before(a, func() int { return 8 })
	if f, ok := funcs.Remove(b); !ok || f() != 8 || funcs.Next(0) != a {
		t.Error("a function")
	}
	if f, ok := funcs.Get(b); f != nil || ok {
		t.Error("a function that is out")
	}
	numbers := New[float64]()
	n := numbers.Push(math.NaN())
	numbers.Push(math.NaN())
	if v, ok := numbers.Remove(n); v == v || !ok || numbers.Len() != 1 || numbers.Next(0) != 2 {
		t.Error("a number unlike itself:", v, ok)
	}
	maps := New[map[string]int]()
	maps.Push(map[string]int{"a": 1})
	if v, ok := maps.Get(1); v["a"] != 1 || !ok {
		t.Error("a map:", v, ok)
	}
}

// random does a call by chance to a list and its model: with handles that are there for the most part.
func random(t *testing.T, r *rand.Rand, l *List[int], m *model[int], grow int) {
	h := r.Intn(m.given+4) - 1
	if len(m.row) > 0 && r.Intn(4) > 0 {
		h = m.row[r.Intn(len(m.row))].h
	}
	v := r.Intn(5)
	switch k := r.Intn(10); {
	case k < grow/2:
		wantPush(t, l, m, v)
	case k < grow:
		wantBefore(t, l, m, h, v)
	default:
		wantRemove(t, l, m, h)
	}
}

// P9.1: calls by chance, of lists that grow, and of such as shrink to none and grow again.
func TestRandom(t *testing.T) {
	for seed := range int64(40) {
		r := rand.New(rand.NewSource(seed))
		l, m := New[int](), &model[int]{}
		for i := range 250 {
			random(t, r, l, m, 2+2*((i/50+int(seed))%5))
			wantAsked(t, l, m, fmt.Sprint("seed ", seed, ", call ", i))
		}
	}
}

// walk is what All must tell of a list while calls are done to it on the way, by the chapter's words.
func walk(m *model[int], limit int, do func()) []entry[int] {
	var got []entry[int]
	for h := m.next(0); h != 0 && len(got) < limit; h = m.next(h) {
		v, _ := m.get(h)
		got = append(got, entry[int]{h, v})
		if do(); m.find(h) < 0 {
			break
		}
	}
	return got
}

// P9.1: All while calls by chance are done at each turn.
func TestRandomAll(t *testing.T) {
	for seed := range int64(300) {
		r := rand.New(rand.NewSource(seed))
		l, m := New[int](), &model[int]{}
		for range 12 {
			random(t, r, l, m, 8)
		}
		alone := &model[int]{slices.Clone(m.row), m.given}
		r.Seed(seed + 1000)
		want := walk(alone, 30, func() { randomModel(r, alone) })
		r.Seed(seed + 1000)
		var got []entry[int]
		for h, v := range l.All() {
			got = append(got, entry[int]{h, v})
			if random(t, r, l, m, 6); len(got) == 30 {
				break
			}
		}
		if !slices.Equal(got, want) {
			t.Fatalf("seed %d: All is %v, want %v", seed, got, want)
		}
		wantAsked(t, l, m, fmt.Sprint("seed ", seed))
	}
}

// randomModel does to a model alone what random does to both with 6.
func randomModel(r *rand.Rand, m *model[int]) {
	h := r.Intn(m.given+4) - 1
	if len(m.row) > 0 && r.Intn(4) > 0 {
		h = m.row[r.Intn(len(m.row))].h
	}
	v := r.Intn(5)
	switch k := r.Intn(10); {
	case k < 3:
		m.push(v)
	case k < 6:
		m.before(h, v)
	default:
		m.remove(h)
	}
}

// P9.1: many values, in and out, from both ends.
func TestMany(t *testing.T) {
	const n = 20000
	l := New[int]()
	for i := range n {
		l.Push(i)
	}
	for i := range n {
		if h := l.Before(i+1, -i); h != n+i+1 {
			t.Fatal("handle", h)
		}
	}
	turn := 0
	for h, v := range l.All() {
		if turn%2 == 0 && (h != n+turn/2+1 || v != -turn/2) || turn%2 == 1 && (h != turn/2+1 || v != turn/2) {
			t.Fatal("turn", turn, h, v)
		}
		turn++
	}
	if turn != 2*n || l.Len() != 2*n {
		t.Fatal("turns", turn)
	}
	for l.Len() > 0 {
		first, last := l.Next(0), l.Prev(0)
		l.Remove(first)
		l.Remove(last)
	}
	if l.Next(0) != 0 || l.Prev(0) != 0 || l.Push(1) != 2*n+1 {
		t.Error("emptied")
	}
}

// P9.1: a list that New didn't make is one without values.
func TestNotMade(t *testing.T) {
	var l List[int]
	m := &model[int]{}
	wantAsked(t, &l, m, "not made")
	wantRemove(t, &l, m, 0)
	wantRemove(t, &l, m, 1)
	wantBefore(t, &l, m, 0, 1)
	wantBefore(t, &l, m, 1, 1)
	wantPush(t, &l, m, 1)
	wantBefore(t, &l, m, 1, 2)
	wantAsked(t, &l, m, "not made, with values")
}
