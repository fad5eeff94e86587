package tally

import (
	"cmp"
	"fmt"
	"math"
	"math/rand"
	"slices"
	"strings"
	"testing"

	"retiary/api"
)

// model is the chapter's words, plainly: each want by itself, in no order that matters.
type model[K comparable] struct{ wants []K }

func (m *model[K]) count(k K) int {
	n := 0
	for _, w := range m.wants {
		if w == k {
			n++
		}
	}
	return n
}

func (m *model[K]) add(k K) int {
	m.wants = append(m.wants, k)
	return m.count(k)
}

func (m *model[K]) drop(k K) (int, api.Errno) {
	i := slices.Index(m.wants, k)
	if i < 0 {
		return 0, api.ErrNone
	}
	m.wants = slices.Delete(m.wants, i, i+1)
	return m.count(k), api.OK
}

// things is what is wanted, each once, in no order that matters.
func (m *model[K]) things() []K {
	var l []K
	for _, w := range m.wants {
		if !slices.Contains(l, w) {
			l = append(l, w)
		}
	}
	return l
}

// keys is what is wanted, put one by one where it belongs.
func (m *model[K]) keys(compare func(a, b K) int) []K {
	var l []K
	for _, w := range m.things() {
		i := 0
		for i < len(l) && compare(l[i], w) < 0 {
			i++
		}
		l = slices.Insert(l, i, w)
	}
	return l
}

// turned is the other way round.
func turned[K any](compare func(a, b K) int) func(a, b K) int {
	return func(a, b K) int { return compare(b, a) }
}

// loud tells by great numbers what another one tells by small ones: of what is told only the sign counts.
func loud[K any](compare func(a, b K) int) func(a, b K) int {
	return func(a, b K) int {
		switch c := compare(a, b); {
		case c < 0:
			return math.MinInt
		case c > 0:
			return math.MaxInt
		}
		return 0
	}
}

// byPlace compares things by where they stand in a list, whatever their type is.
func byPlace[K comparable](l []K) func(a, b K) int {
	return func(a, b K) int { return cmp.Compare(slices.Index(l, a), slices.Index(l, b)) }
}

// wantAsked wants of all calls that ask for something what the model has: for these things, and by this order and the other way round.
func wantAsked[K comparable](t *testing.T, x *Tally[K], m *model[K], of []K, compare func(a, b K) int, what string) {
	t.Helper()
	if got, want := x.Len(), len(m.things()); got != want {
		t.Fatalf("%s: Len is %d, want %d", what, got, want)
	}
	if got, want := x.Total(), len(m.wants); got != want {
		t.Fatalf("%s: Total is %d, want %d", what, got, want)
	}
	for _, k := range of {
		if got, want := x.Count(k), m.count(k); got != want {
			t.Fatalf("%s: Count(%v) is %d, want %d", what, k, got, want)
		}
	}
	for _, c := range []func(a, b K) int{compare, turned(compare), loud(compare), compare} {
		if got, want := x.Keys(c), m.keys(c); !slices.Equal(got, want) {
			t.Fatalf("%s: Keys is %v, want %v", what, got, want)
		}
	}
}

// wantAdd and wantDrop do it to a tally and its model, and want that they answer alike.
func wantAdd[K comparable](t *testing.T, x *Tally[K], m *model[K], k K) {
	t.Helper()
	if got, want := x.Add(k), m.add(k); got != want {
		t.Fatalf("Add(%v) is %d, want %d", k, got, want)
	}
}

func wantDrop[K comparable](t *testing.T, x *Tally[K], m *model[K], k K) {
	t.Helper()
	n, e := x.Drop(k)
	if want, we := m.drop(k); n != want || e != we {
		t.Fatalf("Drop(%v) is %d, error %d, want %d, error %d", k, n, e, want, we)
	}
}

// filled is a tally to which these things were added, with its model.
func filled[K comparable](l ...K) (*Tally[K], *model[K]) {
	x, m := New[K](), &model[K]{}
	for _, k := range l {
		x.Add(k)
		m.add(k)
	}
	return x, m
}

// asked is things for which a tally of numbers is asked: few that are wanted, 0, and those far away.
func asked() []int {
	return []int{0, 1, 2, 3, 4, 5, -1, -2, math.MaxInt, math.MinInt, 1 << 32, 1<<32 + 1, 1<<62 + 1}
}

// P10.1: what the chapter's example says.
func TestExample(t *testing.T) {
	x := New[string]()
	first, second := x.Add("a"), x.Add("a")
	third, e := x.Drop("a")
	if first != 1 || second != 2 || third != 1 || e != api.OK {
		t.Error(first, second, third, e)
	}
	if x.Count("a") != 1 || x.Len() != 1 || x.Total() != 1 {
		t.Error(x.Count("a"), x.Len(), x.Total())
	}
	if got := x.Keys(strings.Compare); !slices.Equal(got, []string{"a"}) {
		t.Error(got)
	}
}

// wantNothing wants of a tally of which nothing is wanted that it answers so, and goes on to do so behind refused calls.
func wantNothing[K comparable](t *testing.T, x *Tally[K], of ...K) {
	t.Helper()
	for range 2 {
		wantAsked(t, x, &model[K]{}, of, byPlace(of), "nothing is wanted")
		for _, k := range of {
			if n, e := x.Drop(k); n != 0 || e != api.ErrNone {
				t.Errorf("Drop(%v) is %d, error %d", k, n, e)
			}
		}
	}
}

// P10.1: of a new tally nothing is wanted, not even a zero value.
func TestNew(t *testing.T) {
	wantNothing(t, New[int](), asked()...)
	wantNothing(t, New[string](), "", "a")
	wantNothing(t, New[bool](), false, true)
	wantNothing(t, New[struct{}](), struct{}{})
	wantNothing(t, New[[2]int](), [2]int{}, [2]int{1, 2})
	wantNothing(t, New[*int](), nil, new(int))
	wantNothing(t, New[any](), nil, 0, "")
	wantNothing(t, New[api.Triple](), api.Triple{}, api.Triple{1, 2, 3})
}

// P10.1: nothing is wanted of a tally that New didn't make, and it is one as any other.
func TestWithoutNew(t *testing.T) {
	wantNothing(t, &Tally[int]{}, asked()...)
	x, m := &Tally[string]{}, &model[string]{}
	for _, k := range []string{"b", "", "b"} {
		wantAdd(t, x, m, k)
	}
	wantDrop(t, x, m, "")
	wantDrop(t, x, m, "")
	wantAsked(t, x, m, []string{"", "a", "b"}, strings.Compare, "without New")
}

// call is one of the calls that change a tally.
type call struct {
	drop bool
	k    int
}

// playAll does all rows of so many calls more to new tallies, and holds each against its model.
func playAll(t *testing.T, l []call, more int) int {
	t.Helper()
	x, m := New[int](), &model[int]{}
	for _, c := range l {
		if c.drop {
			wantDrop(t, x, m, c.k)
		} else {
			wantAdd(t, x, m, c.k)
		}
	}
	wantAsked(t, x, m, []int{-1, 0, 1, 2, 3}, cmp.Compare, fmt.Sprint(l))
	if more == 0 {
		return 1
	}
	n := 0
	for k := range 3 {
		n += playAll(t, append(slices.Clone(l), call{false, k}), more-1)
		n += playAll(t, append(slices.Clone(l), call{true, k}), more-1)
	}
	return n
}

// P10.1: all rows of six calls of Add and Drop of three things, of which one is 0.
func TestAllCalls(t *testing.T) {
	if n := playAll(t, nil, 6); n != 46656 {
		t.Error("only so many rows:", n)
	}
}

// P10.1: a thing that is wanted many times, among others: what each Add and each Drop answers, to nothing and beyond it, and up again.
func TestManyTimes(t *testing.T) {
	x, _ := filled(1, 3, 3)
	for round := range 3 {
		for i := 1; i <= 1000; i++ {
			if n := x.Add(2); n != i || x.Count(2) != i || x.Len() != 3 || x.Total() != 3+i {
				t.Fatal("round", round, "Add", i, n, x.Count(2), x.Len(), x.Total())
			}
		}
		if got := x.Keys(cmp.Compare); !slices.Equal(got, []int{1, 2, 3}) {
			t.Error("Keys:", got)
		}
		for i := 999; i >= 0; i-- {
			n, e := x.Drop(2)
			if n != i || e != api.OK || x.Count(2) != i || x.Total() != 3+i || x.Len() != 2+min(i, 1) {
				t.Fatal("round", round, "Drop to", i, n, e, x.Count(2), x.Len(), x.Total())
			}
		}
		for range 3 {
			n, e := x.Drop(2)
			if n != 0 || e != api.ErrNone || x.Count(2) != 0 || x.Len() != 2 || x.Total() != 3 {
				t.Fatal("round", round, "beyond nothing", n, e, x.Count(2), x.Len(), x.Total())
			}
		}
		if got := x.Keys(cmp.Compare); !slices.Equal(got, []int{1, 3}) {
			t.Error("Keys without it:", got)
		}
	}
	if x.Count(1) != 1 || x.Count(3) != 2 {
		t.Error("the others:", x.Count(1), x.Count(3))
	}
}

// P10.1: Drop of what isn't wanted, never was, or no more is, answers ErrNone, and nothing changes.
func TestDropNone(t *testing.T) {
	x, m := filled(1, 1, 4, 3, 3, 3)
	wantDrop(t, x, m, 4)
	for _, k := range asked() {
		if m.count(k) > 0 {
			continue
		}
		for range 3 {
			if n, e := x.Drop(k); n != 0 || e != api.ErrNone {
				t.Errorf("Drop(%d) is %d, error %d", k, n, e)
			}
			wantAsked(t, x, m, asked(), cmp.Compare, "refused")
		}
	}
	wantAdd(t, x, m, 4)
	wantAdd(t, x, m, math.MinInt)
	wantAsked(t, x, m, asked(), cmp.Compare, "wanted behind it")
}

// P10.1: Len and Total behind each call, calls that ask and refused ones among them.
func TestLenTotal(t *testing.T) {
	x := New[string]()
	for i, step := range []struct {
		do         func()
		len, total int
	}{
		{func() {}, 0, 0},
		{func() { x.Drop("a") }, 0, 0},
		{func() { x.Add("a") }, 1, 1},
		{func() { x.Add("a") }, 1, 2},
		{func() { x.Add("") }, 2, 3},
		{func() { x.Drop("b") }, 2, 3},
		{func() { x.Count("b") }, 2, 3},
		{func() { x.Count("a") }, 2, 3},
		{func() { x.Keys(strings.Compare) }, 2, 3},
		{func() { x.Add("b") }, 3, 4},
		{func() { x.Drop("a") }, 3, 3},
		{func() { x.Drop("a") }, 2, 2},
		{func() { x.Drop("a") }, 2, 2},
		{func() { x.Drop("") }, 1, 1},
		{func() { x.Drop("b") }, 0, 0},
		{func() { x.Drop("b") }, 0, 0},
		{func() { x.Drop("") }, 0, 0},
		{func() { x.Add("b") }, 1, 1},
	} {
		step.do()
		if x.Len() != step.len || x.Total() != step.total {
			t.Errorf("step %d: Len %d, Total %d, want %d, %d", i, x.Len(), x.Total(), step.len, step.total)
		}
	}
}

// P10.1: Keys of no thing, of one and of many, in whatever order they came, and how often each is wanted.
func TestKeysMany(t *testing.T) {
	r := rand.New(rand.NewSource(1))
	for _, n := range []int{0, 1, 2, 3, 11, 12, 13, 50, 200} {
		x, m := New[int](), &model[int]{}
		for _, k := range r.Perm(n) {
			for range 1 + k%3 {
				wantAdd(t, x, m, k)
			}
		}
		wantAsked(t, x, m, []int{0, n - 1, n}, cmp.Compare, fmt.Sprint(n, " things"))
		for k := range n {
			if k%2 == 0 {
				continue
			}
			for x.Count(k) > 0 {
				wantDrop(t, x, m, k)
			}
		}
		wantAsked(t, x, m, []int{0, n - 1, n}, cmp.Compare, fmt.Sprint("every other one of ", n))
		if got := x.Keys(cmp.Compare); len(got) != (n+1)/2 {
			t.Errorf("every other one of %d: %v", n, got)
		}
	}
}

// P10.1: Keys rise by compare, whatever that is: by other orders of the things' parts, and by such as have nothing to do with them.
func TestKeysOrders(t *testing.T) {
	type thing struct {
		name string
		n    int
	}
	a, b, c, d := thing{"a", 3}, thing{"b", 1}, thing{"a", 1}, thing{"bb", -7}
	x, _ := filled(d, a, c, b, a, thing{}, c, d)
	x.Drop(thing{})
	byName := func(p, q thing) int { return cmp.Or(strings.Compare(p.name, q.name), cmp.Compare(p.n, q.n)) }
	byNumber := func(p, q thing) int { return cmp.Or(cmp.Compare(p.n, q.n), strings.Compare(p.name, q.name)) }
	byLength := func(p, q thing) int {
		return cmp.Or(cmp.Compare(len(p.name), len(q.name)), cmp.Compare(q.n, p.n), strings.Compare(q.name, p.name))
	}
	for i, o := range []struct {
		compare func(p, q thing) int
		want    []thing
	}{
		{byName, []thing{c, a, b, d}},
		{turned(byName), []thing{d, b, a, c}},
		{byNumber, []thing{d, c, b, a}},
		{turned(byNumber), []thing{a, b, c, d}},
		{byLength, []thing{a, b, c, d}},
		{loud(turned(byLength)), []thing{d, c, b, a}},
		{byPlace([]thing{b, d, a, c}), []thing{b, d, a, c}},
	} {
		for range 3 {
			if got := x.Keys(o.compare); !slices.Equal(got, o.want) {
				t.Errorf("order %d: %v, want %v", i, got, o.want)
			}
		}
	}
}

// P10.1: each order of four things is one by which Keys rises.
func TestKeysEachOrder(t *testing.T) {
	x, _ := filled("d", "b", "a", "c", "b", "a", "a")
	var grow func(l []string)
	grow = func(l []string) {
		if len(l) == 4 {
			if got := x.Keys(byPlace(l)); !slices.Equal(got, l) {
				t.Errorf("%v, want %v", got, l)
			}
			return
		}
		for _, k := range []string{"a", "b", "c", "d"} {
			if !slices.Contains(l, k) {
				grow(append(slices.Clone(l), k))
			}
		}
	}
	grow(nil)
}

// P10.1: compare, which needn't know any others, is asked of things that are wanted alone.
func TestKeysAsks(t *testing.T) {
	x, m := filled(5, 1, 4, 2, 3, 3, 0)
	wantDrop(t, x, m, 0)
	wantDrop(t, x, m, 3)
	x.Keys(func(a, b int) int {
		if m.count(a) == 0 || m.count(b) == 0 {
			t.Error("it is asked of", a, b)
		}
		return cmp.Compare(a, b)
	})
}

// P10.1: what Keys answers is the caller's own: it may change, and grow, without another answer or the tally.
func TestKeysChanged(t *testing.T) {
	x, m := filled(3, 1, 2, 1)
	first, second := x.Keys(cmp.Compare), x.Keys(cmp.Compare)
	for i := range first {
		first[i] = 9
	}
	first = append(first[:1], 7, 8)
	if !slices.Equal(second, []int{1, 2, 3}) {
		t.Error("the second answer:", second, first)
	}
	wantAsked(t, x, m, asked(), cmp.Compare, "an answer was changed")
	wantDrop(t, x, m, 1)
	wantDrop(t, x, m, 1)
	wantAdd(t, x, m, 4)
	if !slices.Equal(second, []int{1, 2, 3}) {
		t.Error("an answer goes with the tally:", second)
	}
	wantAsked(t, x, m, asked(), cmp.Compare, "behind all that")
}

// P10.1: a compare that itself calls the tally: Keys answers what was wanted when it was called.
func TestKeysCalls(t *testing.T) {
	x, _ := filled(3, 1, 2)
	got := x.Keys(func(a, b int) int {
		x.Add(10 + a)
		x.Drop(1)
		x.Keys(cmp.Compare)
		return cmp.Compare(a, b)
	})
	if !slices.Equal(got, []int{1, 2, 3}) {
		t.Error(got)
	}
	if x.Count(1) != 0 || x.Count(2) != 1 || x.Count(3) != 1 {
		t.Error("the tally:", x.Keys(cmp.Compare))
	}
}

// P10.1: no compare, one that panics, and such as tell what can't be: Keys ends, without a panic, and nothing changes.
func TestKeysWrong(t *testing.T) {
	x, m := New[int](), &model[int]{}
	for k := range 100 {
		wantAdd(t, x, m, k)
	}
	if got := x.Keys(nil); len(got) != 0 {
		t.Error("by none:", got)
	}
	if got := x.Keys(func(a, b int) int { panic("no order") }); len(got) != 0 {
		t.Error("by one that panics:", got)
	}
	turns := 0
	late := func(a, b int) int {
		if turns++; turns > 90 {
			panic("no order any more")
		}
		return cmp.Compare(a, b)
	}
	if got := x.Keys(late); len(got) != 0 {
		t.Error("by one that panics late:", got)
	}
	for n := -1; n <= 1; n++ {
		x.Keys(func(a, b int) int { return n })
	}
	x.Keys(func(a, b int) int { turns++; return turns%3 - 1 })
	wantAsked(t, x, m, asked(), cmp.Compare, "behind wrong orders")
}

// P10.1: two tallies know nothing of each other, of one type or of two.
func TestTwoTallies(t *testing.T) {
	a, am := filled(1, 1, 2)
	b, bm := filled[int]()
	c, cm := filled("c")
	wantAsked(t, b, bm, asked(), cmp.Compare, "b")
	wantDrop(t, b, bm, 1)
	wantAdd(t, b, bm, 2)
	wantAdd(t, b, bm, 3)
	wantDrop(t, a, am, 2)
	wantDrop(t, b, bm, 1)
	wantAdd(t, c, cm, "1")
	wantDrop(t, a, am, 1)
	wantDrop(t, c, cm, "c")
	wantAsked(t, a, am, asked(), cmp.Compare, "a")
	wantAsked(t, b, bm, asked(), cmp.Compare, "b")
	wantAsked(t, c, cm, []string{"", "c", "1"}, strings.Compare, "c")
}

// holds wants things of one type more and more often, and then less and less, and holds it against the model; all are unlike.
func holds[K comparable](t *testing.T, of ...K) {
	t.Helper()
	x, m := New[K](), &model[K]{}
	ask := func(what string) {
		t.Helper()
		wantAsked(t, x, m, of, byPlace(of), fmt.Sprintf("%T: %s", x, what))
	}
	for i, k := range of {
		wantDrop(t, x, m, k)
		for range i + 1 {
			wantAdd(t, x, m, k)
			ask("added")
		}
	}
	if got := x.Keys(byPlace(of)); !slices.Equal(got, of) {
		t.Errorf("%T: Keys is %v, want %v", x, got, of)
	}
	for range len(of) + 1 {
		for _, k := range of {
			wantDrop(t, x, m, k)
			ask("dropped")
		}
	}
	wantNothing(t, x, of...)
	for _, k := range of {
		wantAdd(t, x, m, k)
	}
	ask("added again")
}

// P10.1: things of several types, zero values among them.
func TestTypes(t *testing.T) {
	type part struct {
		name string
		l    [2]bool
	}
	type whole struct {
		a, b int
		p    part
	}
	one, other := whole{a: 1}, whole{a: 1}
	holds(t, 0, 1, -1, math.MaxInt, math.MinInt, 1<<32, 1<<32+1)
	holds[uint8](t, 0, 1, 128, 255)
	holds[int8](t, 0, -1, -128, 127)
	holds[uint64](t, 0, 1, 1<<63, math.MaxUint64)
	holds(t, 0.0, 0.5, -0.5, math.Inf(1), math.Inf(-1))
	holds(t, "", "a", "A", "a ", "\x00", "\x00\x00", "\xff", "ä", strings.Repeat("a", 1000))
	holds(t, false, true)
	holds(t, struct{}{})
	holds(t, [0]int{})
	holds(t, whole{}, whole{a: 1}, whole{b: 1}, whole{p: part{name: "a"}}, whole{p: part{l: [2]bool{false, true}}})
	holds(t, [3]int{}, [3]int{1, 2, 3}, [3]int{3, 2, 1}, [3]int{0, 0, 1})
	holds(t, [2]string{}, [2]string{"a", ""}, [2]string{"", "a"})
	holds(t, api.Triple{}, api.Triple{1, 2, 3}, api.Triple{4096, 4096, 4096})
	holds(t, api.Test{}, api.Test{Back: -1}, api.Test{Field: 2, Back: -1, Other: 1})
	holds(t, nil, &one, &other, &whole{})
	holds(t, make(chan int), nil, make(chan int))
	holds[any](t, nil, 0, int8(0), "", false, whole{}, [1]int{}, &one, &other, api.ErrNone, api.Errno(0))
	holds[error](t, nil, fmt.Errorf("a"), fmt.Errorf("a"))
}

// P10.1: pointers to alike things are two; what one points to may change without the tally.
func TestPointers(t *testing.T) {
	a, b := 5, 5
	x := New[*int]()
	if x.Add(&a) != 1 || x.Add(&b) != 1 || x.Add(&a) != 2 || x.Count(nil) != 0 {
		t.Error("two pointers:", x.Count(&a), x.Count(&b), x.Count(nil))
	}
	a = 7
	b = 6
	if x.Count(&a) != 2 || x.Count(&b) != 1 {
		t.Error("what they point to has changed:", x.Count(&a), x.Count(&b))
	}
	got := x.Keys(func(p, q *int) int { return cmp.Compare(*p, *q) })
	if !slices.Equal(got, []*int{&b, &a}) || a != 7 || b != 6 {
		t.Error("Keys:", got)
	}
	if n, e := x.Drop(&b); n != 0 || e != api.OK || x.Len() != 1 {
		t.Error("Drop:", n, e, x.Len())
	}
}

// P10.1: alike things are one, however they were made.
func TestAlike(t *testing.T) {
	x := New[string]()
	x.Add("abc")
	if x.Add(string([]byte{'a', 'b', 'c'})) != 2 || x.Add("xabcx"[1:4]) != 3 || x.Len() != 1 {
		t.Error("texts:", x.Keys(strings.Compare))
	}
	zeros := New[float64]()
	if zeros.Add(0) != 1 || zeros.Add(math.Copysign(0, -1)) != 2 || zeros.Len() != 1 {
		t.Error("zeros:", zeros.Len())
	}
	anything := New[any]()
	if anything.Add([2]any{1, "a"}) != 1 || anything.Add([2]any{1, "a"}) != 2 || anything.Add([2]any{int8(1), "a"}) != 1 {
		t.Error("arrays of anything:", anything.Len())
	}
}

// P10.1: arrays and structs are values: what was added, or was told, may change without the tally.
func TestValues(t *testing.T) {
	x := New[[2]int]()
	v := [2]int{1, 2}
	x.Add(v)
	v[0] = 9
	for _, k := range x.Keys(func(a, b [2]int) int { return 0 }) {
		k[1] = 9
	}
	if x.Count([2]int{1, 2}) != 1 || x.Count(v) != 0 {
		t.Error(x.Count([2]int{1, 2}), x.Count(v))
	}
}

// P10.1: what can't be compared, as it may be in an interface, is never wanted, and no call panics.
func TestNotComparable(t *testing.T) {
	type wrong struct{ l []int }
	x, m := New[any](), &model[any]{}
	bad := func() {
		t.Helper()
		for _, k := range []any{[]int{1}, []int(nil), map[int]int{}, func() {}, wrong{}, [1]any{[]int{}}} {
			if n := x.Add(k); n != 0 {
				t.Errorf("Add of a %T is %d", k, n)
			}
			if n, e := x.Drop(k); n != 0 || e != api.ErrNone {
				t.Errorf("Drop of a %T is %d, error %d", k, n, e)
			}
			if n := x.Count(k); n != 0 {
				t.Errorf("Count of a %T is %d", k, n)
			}
		}
	}
	of := []any{nil, 1, "a"}
	bad()
	wantAsked(t, x, m, of, byPlace(of), "nothing is wanted")
	for _, k := range []any{"a", 1, "a", nil} {
		wantAdd(t, x, m, k)
		bad()
		wantAsked(t, x, m, of, byPlace(of), "some is wanted")
	}
}

// P10.1: calls by chance, on tallies that grow, and on such as shrink to nothing and grow again.
func TestRandom(t *testing.T) {
	for seed := range int64(60) {
		r := rand.New(rand.NewSource(seed))
		x, m := New[int](), &model[int]{}
		span := 1 + r.Intn(12)
		for i := range 300 {
			k := r.Intn(span) - span/2
			if r.Intn(10) < 2+2*((i/60+int(seed))%4) {
				wantAdd(t, x, m, k)
			} else {
				wantDrop(t, x, m, k)
			}
			wantAsked(t, x, m, asked(), cmp.Compare, fmt.Sprint("seed ", seed, ", call ", i))
		}
	}
}

// P10.1: calls by chance on several tallies of triples at a time, asked by orders that change.
func TestRandomTallies(t *testing.T) {
	var of []api.Triple
	for n := range 27 {
		of = append(of, api.Triple{n / 9, n / 3 % 3, n % 3})
	}
	for seed := range int64(30) {
		r := rand.New(rand.NewSource(seed))
		var tallies [3]*Tally[api.Triple]
		var models [3]*model[api.Triple]
		for i := range tallies {
			tallies[i], models[i] = filled[api.Triple]()
		}
		for range 150 {
			i, k := r.Intn(3), of[r.Intn(9+9*r.Intn(3))]
			if r.Intn(5) < 3 {
				wantAdd(t, tallies[i], models[i], k)
			} else {
				wantDrop(t, tallies[i], models[i], k)
			}
			order := slices.Clone(of)
			r.Shuffle(len(order), func(a, b int) { order[a], order[b] = order[b], order[a] })
			for i := range tallies {
				wantAsked(t, tallies[i], models[i], of, byPlace(order), fmt.Sprint("seed ", seed, ", tally ", i))
			}
		}
	}
}
