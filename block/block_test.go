package block

import (
	"fmt"
	"math"
	"math/rand"
	"slices"
	"strings"
	"testing"

	"retiary/api"
)

// pair is an owner and one that blocks it.
type pair[K, V comparable] struct {
	k K
	v V
}

// model is the chapter's words, plainly: the owners in the order in which they were opened, and the pairs in no order that matters.
type model[K, V comparable] struct {
	open  []K
	pairs []pair[K, V]
}

func (m *model[K, V]) is(k K) bool { return slices.Contains(m.open, k) }

func (m *model[K, V]) has(k K, v V) bool { return slices.Contains(m.pairs, pair[K, V]{k, v}) }

func (m *model[K, V]) count(k K) int {
	n := 0
	for _, p := range m.pairs {
		if p.k == k {
			n++
		}
	}
	return n
}

func (m *model[K, V]) by(v V) []K {
	var l []K
	for _, k := range m.open {
		if m.has(k, v) {
			l = append(l, k)
		}
	}
	return l
}

func (m *model[K, V]) opens(k K) bool {
	if m.is(k) {
		return false
	}
	m.open = append(m.open, k)
	return true
}

func (m *model[K, V]) closes(k K) bool {
	if !m.is(k) {
		return false
	}
	m.open = slices.DeleteFunc(m.open, func(x K) bool { return x == k })
	m.pairs = slices.DeleteFunc(m.pairs, func(p pair[K, V]) bool { return p.k == k })
	return true
}

func (m *model[K, V]) blocks(k K, v V) (first, ok bool) {
	if !m.is(k) || m.has(k, v) {
		return false, false
	}
	first = m.count(k) == 0
	m.pairs = append(m.pairs, pair[K, V]{k, v})
	return first, true
}

func (m *model[K, V]) frees(k K, v V) (last, ok bool) {
	if !m.has(k, v) {
		return false, false
	}
	m.pairs = slices.DeleteFunc(m.pairs, func(p pair[K, V]) bool { return p == pair[K, V]{k, v} })
	return m.count(k) == 0, true
}

// both is Blocks beside their model, and the owners and blockers for which they are asked.
type both[K, V comparable] struct {
	x  *Blocks[K, V]
	m  *model[K, V]
	ks []K
	vs []V
}

// fresh is new Blocks, which are asked for these owners and blockers.
func fresh[K, V comparable](ks []K, vs []V) *both[K, V] {
	return &both[K, V]{New[K, V](), &model[K, V]{}, ks, vs}
}

// wantAsked wants of all calls that ask for something what the model has.
func (b *both[K, V]) wantAsked(t *testing.T, what string) {
	t.Helper()
	if got, want := b.x.Len(), len(b.m.open); got != want {
		t.Fatalf("%s: Len is %d, want %d", what, got, want)
	}
	if got, want := b.x.Pairs(), len(b.m.pairs); got != want {
		t.Fatalf("%s: Pairs is %d, want %d", what, got, want)
	}
	if got := b.x.Owners(); !slices.Equal(got, b.m.open) {
		t.Fatalf("%s: Owners is %v, want %v", what, got, b.m.open)
	}
	for _, k := range b.ks {
		if got, want := b.x.Is(k), b.m.is(k); got != want {
			t.Fatalf("%s: Is(%v) is %t", what, k, got)
		}
		if got, want := b.x.Count(k), b.m.count(k); got != want {
			t.Fatalf("%s: Count(%v) is %d, want %d", what, k, got, want)
		}
	}
	for _, v := range b.vs {
		if got, want := b.x.By(v), b.m.by(v); !slices.Equal(got, want) {
			t.Fatalf("%s: By(%v) is %v, want %v", what, v, got, want)
		}
	}
}

// open, close, block and free do it to Blocks and their model, and want that they answer alike.
func (b *both[K, V]) open(t *testing.T, k K) {
	t.Helper()
	if got, want := b.x.Open(k), b.m.opens(k); got != want {
		t.Fatalf("Open(%v) is %t", k, got)
	}
}

func (b *both[K, V]) close(t *testing.T, k K) {
	t.Helper()
	if got, want := b.x.Close(k), b.m.closes(k); got != want {
		t.Fatalf("Close(%v) is %t", k, got)
	}
}

func (b *both[K, V]) block(t *testing.T, k K, v V) {
	t.Helper()
	first, ok := b.x.Block(k, v)
	if wantFirst, want := b.m.blocks(k, v); first != wantFirst || ok != want {
		t.Fatalf("Block(%v, %v) is %t, %t, want %t, %t", k, v, first, ok, wantFirst, want)
	}
}

func (b *both[K, V]) free(t *testing.T, k K, v V) {
	t.Helper()
	last, ok := b.x.Free(k, v)
	if wantLast, want := b.m.frees(k, v); last != wantLast || ok != want {
		t.Fatalf("Free(%v, %v) is %t, %t, want %t, %t", k, v, last, ok, wantLast, want)
	}
}

// wantRefused wants of Close, Block and Free of owners that aren't open, whoever blocks them, that they answer false and change nothing.
func (b *both[K, V]) wantRefused(t *testing.T) {
	t.Helper()
	for _, k := range b.ks {
		if b.m.is(k) {
			continue
		}
		if b.x.Close(k) {
			t.Fatalf("Close(%v), which isn't open, is true", k)
		}
		for _, v := range b.vs {
			if first, ok := b.x.Block(k, v); first || ok {
				t.Fatalf("Block(%v, %v), which isn't open, is %t, %t", k, v, first, ok)
			}
			if last, ok := b.x.Free(k, v); last || ok {
				t.Fatalf("Free(%v, %v), which isn't open, is %t, %t", k, v, last, ok)
			}
		}
		b.wantAsked(t, "refused")
	}
}

// letters is new Blocks with numbers as owners and letters as blockers, in which these owners are open.
func letters(t *testing.T, open ...int) *both[int, string] {
	t.Helper()
	b := fresh([]int{0, 1, 2, 3, 4, 5, -1, math.MaxInt, math.MinInt, 1 << 32, 1<<32 + 1}, []string{"", "a", "b", "c", "d", "A", "aa"})
	for _, k := range open {
		b.open(t, k)
	}
	return b
}

// wantBlock and wantFree want an answer that is written out, and hold it against the model, too.
func (b *both[K, V]) wantBlock(t *testing.T, k K, v V, first, ok bool) {
	t.Helper()
	if f, o := b.x.Block(k, v); f != first || o != ok {
		t.Fatalf("Block(%v, %v) is %t, %t, want %t, %t", k, v, f, o, first, ok)
	}
	b.m.blocks(k, v)
	b.wantAsked(t, fmt.Sprintf("behind Block(%v, %v)", k, v))
}

func (b *both[K, V]) wantFree(t *testing.T, k K, v V, last, ok bool) {
	t.Helper()
	if l, o := b.x.Free(k, v); l != last || o != ok {
		t.Fatalf("Free(%v, %v) is %t, %t, want %t, %t", k, v, l, o, last, ok)
	}
	b.m.frees(k, v)
	b.wantAsked(t, fmt.Sprintf("behind Free(%v, %v)", k, v))
}

// wantOpen and wantClose do the same.
func (b *both[K, V]) wantOpen(t *testing.T, k K, ok bool) {
	t.Helper()
	if got := b.x.Open(k); got != ok {
		t.Fatalf("Open(%v) is %t", k, got)
	}
	b.m.opens(k)
	b.wantAsked(t, fmt.Sprintf("behind Open(%v)", k))
}

func (b *both[K, V]) wantClose(t *testing.T, k K, ok bool) {
	t.Helper()
	if got := b.x.Close(k); got != ok {
		t.Fatalf("Close(%v) is %t", k, got)
	}
	b.m.closes(k)
	b.wantAsked(t, fmt.Sprintf("behind Close(%v)", k))
}

// wantOwners and wantBy want a list that is written out.
func (b *both[K, V]) wantOwners(t *testing.T, want ...K) {
	t.Helper()
	if got := b.x.Owners(); !slices.Equal(got, want) {
		t.Fatalf("Owners is %v, want %v", got, want)
	}
}

func (b *both[K, V]) wantBy(t *testing.T, v V, want ...K) {
	t.Helper()
	if got := b.x.By(v); !slices.Equal(got, want) {
		t.Fatalf("By(%v) is %v, want %v", v, got, want)
	}
}

// P17.1: what the chapter's example says.
func TestExample(t *testing.T) {
	b := fresh([]string{"a", "b", ""}, []int{0, 1, 2, 3})
	b.wantOpen(t, "a", true)
	b.wantBlock(t, "a", 1, true, true)
	b.wantBlock(t, "a", 2, false, true)
	b.wantFree(t, "a", 1, false, true)
	b.wantFree(t, "a", 2, true, true)
	if !b.x.Is("a") || b.x.Count("a") != 0 || b.x.Pairs() != 0 || b.x.Len() != 1 {
		t.Error(b.x.Is("a"), b.x.Count("a"), b.x.Pairs(), b.x.Len())
	}
}

// wantNobody wants of Blocks of which nobody is open that they answer so, and go on to do so behind refused calls.
func wantNobody[K, V comparable](t *testing.T, x *Blocks[K, V], ks []K, vs []V) {
	t.Helper()
	b := &both[K, V]{x, &model[K, V]{}, ks, vs}
	for range 2 {
		b.wantAsked(t, "nobody is open")
		b.wantRefused(t)
		if l := x.Owners(); len(l) != 0 || x.Len() != 0 || x.Pairs() != 0 {
			t.Errorf("%T: %v, %d, %d", x, l, x.Len(), x.Pairs())
		}
	}
}

// P17.1: of new Blocks nobody is open, not even a zero value, and Close, Block and Free do nothing.
func TestNew(t *testing.T) {
	wantNobody(t, New[int, int](), []int{0, 1, -1}, []int{0, 1, -1})
	wantNobody(t, New[string, int](), []string{"", "a"}, []int{0, 1})
	wantNobody(t, New[int, string](), []int{0, 1}, []string{"", "a"})
	wantNobody(t, New[bool, struct{}](), []bool{false, true}, []struct{}{{}})
	wantNobody(t, New[struct{}, bool](), []struct{}{{}}, []bool{false, true})
	wantNobody(t, New[[2]int, *int](), [][2]int{{}, {1, 2}}, []*int{nil, new(int)})
	wantNobody(t, New[*int, [2]int](), []*int{nil, new(int)}, [][2]int{{}, {1, 2}})
	wantNobody(t, New[any, any](), []any{nil, 0, ""}, []any{nil, 0, ""})
	wantNobody(t, New[api.Triple, api.Test](), []api.Triple{{}, {1, 2, 3}}, []api.Test{{}, {Field: 1}})
}

// P17.1: of Blocks that New didn't make nobody is open, and they are as any others.
func TestWithoutNew(t *testing.T) {
	wantNobody(t, &Blocks[int, string]{}, []int{0, 1}, []string{"", "a"})
	b := letters(t)
	b.x = &Blocks[int, string]{}
	b.wantBlock(t, 2, "a", false, false)
	b.wantOpen(t, 2, true)
	b.wantOpen(t, 0, true)
	b.wantBlock(t, 2, "a", true, true)
	b.wantBlock(t, 0, "a", true, true)
	b.wantOpen(t, 2, false)
	b.wantFree(t, 0, "a", true, true)
	b.wantClose(t, 2, true)
	b.wantRefused(t)
}

// P17.1: Open of an owner: it is open and free; of one that is open already: false, and its blockers stay, as does its place among the owners.
func TestOpen(t *testing.T) {
	b := letters(t)
	b.wantOpen(t, 3, true)
	if !b.x.Is(3) || b.x.Count(3) != 0 || b.x.Len() != 1 || b.x.Pairs() != 0 {
		t.Error(b.x.Is(3), b.x.Count(3), b.x.Len(), b.x.Pairs())
	}
	b.wantOpen(t, 3, false)
	b.wantOpen(t, 1, true)
	b.wantBlock(t, 3, "a", true, true)
	b.wantBlock(t, 3, "b", false, true)
	b.wantBlock(t, 1, "a", true, true)
	for range 3 {
		b.wantOpen(t, 3, false)
	}
	b.wantOwners(t, 3, 1)
	b.wantBy(t, "a", 3, 1)
	b.wantBy(t, "b", 3)
	b.wantBlock(t, 3, "a", false, false)
	b.wantFree(t, 3, "a", false, true)
	b.wantRefused(t)
}

// P17.1: Close of one without blockers, of one that is free again, and of one with several, of which others go on to block who they did.
func TestClose(t *testing.T) {
	b := letters(t, 1, 2, 3, 4)
	for _, v := range []string{"a", "b", "c"} {
		b.block(t, 2, v)
		b.block(t, 4, v)
	}
	b.wantBlock(t, 3, "b", true, true)
	b.wantClose(t, 1, true)
	b.wantOwners(t, 2, 3, 4)
	b.wantClose(t, 2, true)
	b.wantOwners(t, 3, 4)
	b.wantBy(t, "b", 3, 4)
	if b.x.Count(2) != 0 || b.x.Count(4) != 3 || b.x.Pairs() != 4 || b.x.Len() != 2 {
		t.Error(b.x.Count(2), b.x.Count(4), b.x.Pairs(), b.x.Len())
	}
	b.wantFree(t, 3, "b", true, true)
	b.wantClose(t, 3, true)
	b.wantClose(t, 4, true)
	wantNobody(t, b.x, b.ks, b.vs)
}

// P17.1: Close of one that never was open, and of one twice: false, and nothing.
func TestCloseNobody(t *testing.T) {
	b := letters(t, 1, 2)
	b.block(t, 1, "a")
	b.block(t, 2, "a")
	b.wantClose(t, 5, false)
	b.wantClose(t, 2, true)
	for range 3 {
		b.wantClose(t, 2, false)
	}
	b.wantRefused(t)
	b.wantOwners(t, 1)
	b.wantBy(t, "a", 1)
}

// P17.1: who is opened again behind a Close is free, and stands last in Owners and By.
func TestOpenAgain(t *testing.T) {
	b := letters(t, 1, 2, 3)
	for _, k := range []int{1, 2, 3} {
		b.block(t, k, "a")
		b.block(t, k, "b")
	}
	b.wantClose(t, 1, true)
	b.wantOpen(t, 1, true)
	if b.x.Count(1) != 0 || b.x.Pairs() != 4 {
		t.Error("it isn't free:", b.x.Count(1), b.x.Pairs())
	}
	b.wantOwners(t, 2, 3, 1)
	b.wantBy(t, "a", 2, 3)
	b.wantFree(t, 1, "a", false, false)
	b.wantBlock(t, 1, "a", true, true)
	b.wantBy(t, "a", 2, 3, 1)
	b.wantClose(t, 3, true)
	b.wantOpen(t, 3, true)
	b.wantBlock(t, 3, "a", true, true)
	b.wantOwners(t, 2, 1, 3)
	b.wantBy(t, "a", 2, 1, 3)
	b.wantBy(t, "b", 2)
	for range 5 {
		b.wantClose(t, 2, true)
		b.wantOpen(t, 2, true)
		b.wantOwners(t, 1, 3, 2)
	}
}

// P17.1: Block of an owner that is free is the first, of one that isn't is not; by the same blocker twice, both are false, and it blocks once.
func TestBlock(t *testing.T) {
	b := letters(t, 0, 1)
	b.wantBlock(t, 0, "", true, true)
	b.wantBlock(t, 0, "", false, false)
	b.wantBlock(t, 0, "a", false, true)
	b.wantBlock(t, 0, "b", false, true)
	b.wantBlock(t, 0, "a", false, false)
	b.wantBlock(t, 0, "", false, false)
	if b.x.Count(0) != 3 || b.x.Count(1) != 0 || b.x.Pairs() != 3 {
		t.Error(b.x.Count(0), b.x.Count(1), b.x.Pairs())
	}
	b.wantBlock(t, 1, "a", true, true)
	b.wantBlock(t, 1, "a", false, false)
	b.wantFree(t, 1, "a", true, true)
	b.wantFree(t, 1, "a", false, false)
}

// P17.1: Block of one that isn't open, that isn't any more, or never was: both are false; it isn't open behind it, and is free when it is opened.
func TestBlockNobody(t *testing.T) {
	b := letters(t, 1, 2)
	b.block(t, 2, "a")
	b.close(t, 2)
	for _, k := range []int{2, 3, 0} {
		b.wantBlock(t, k, "a", false, false)
		b.wantBlock(t, k, "b", false, false)
	}
	for _, k := range []int{2, 3, 0} {
		b.wantOpen(t, k, true)
		b.wantFree(t, k, "a", false, false)
		b.wantBlock(t, k, "b", true, true)
	}
	b.wantOwners(t, 1, 2, 3, 0)
}

// P17.1: Free of one of several is not the last, of the last one is, whichever order they came and went in.
func TestFree(t *testing.T) {
	all := []string{"a", "b", "c"}
	for _, in := range orders(all) {
		for _, out := range orders(all) {
			b := letters(t, 1, 2)
			b.block(t, 2, "b")
			for i, v := range in {
				b.wantBlock(t, 1, v, i == 0, true)
			}
			for i, v := range out {
				b.wantFree(t, 1, v, i == 2, true)
			}
			if !b.x.Is(1) || b.x.Count(1) != 0 || b.x.Count(2) != 1 {
				t.Fatal(in, out, b.x.Is(1), b.x.Count(1), b.x.Count(2))
			}
		}
	}
}

// orders is all orders of a list.
func orders[T any](l []T) [][]T {
	if len(l) == 0 {
		return [][]T{nil}
	}
	var all [][]T
	for i, x := range l {
		for _, rest := range orders(slices.Delete(slices.Clone(l), i, i+1)) {
			all = append(all, append([]T{x}, rest...))
		}
	}
	return all
}

// P17.1: Free of one that doesn't block it, but another, of one twice, of an owner that is free, and of one that isn't open: both are false, and nothing.
func TestFreeNobody(t *testing.T) {
	b := letters(t, 1, 2, 3)
	b.wantFree(t, 1, "a", false, false)
	b.block(t, 1, "a")
	b.block(t, 1, "b")
	b.block(t, 2, "c")
	b.wantFree(t, 1, "c", false, false)
	b.wantFree(t, 2, "a", false, false)
	b.wantFree(t, 3, "a", false, false)
	b.wantFree(t, 1, "", false, false)
	b.wantFree(t, 1, "a", false, true)
	b.wantFree(t, 1, "a", false, false)
	b.wantFree(t, 1, "b", true, true)
	b.wantFree(t, 1, "b", false, false)
	b.wantFree(t, 5, "a", false, false)
	b.wantClose(t, 2, true)
	b.wantFree(t, 2, "c", false, false)
	b.wantOwners(t, 1, 3)
}

// P17.1: who blocks an owner behind a Free of the last one is the first again, the same one or another; its place among the owners stays.
func TestFirstAgain(t *testing.T) {
	b := letters(t, 1, 2)
	b.block(t, 2, "a")
	for _, v := range []string{"a", "b", "a", "", "a", "a"} {
		b.wantBlock(t, 1, v, true, true)
		b.wantBlock(t, 1, "d", false, true)
		b.wantFree(t, 1, v, false, true)
		b.wantFree(t, 1, "d", true, true)
		b.wantOwners(t, 1, 2)
	}
	b.wantBlock(t, 1, "a", true, true)
	b.wantBy(t, "a", 1, 2)
}

// P17.1: By tells owners in the order in which they were opened, in whatever order they were opened and blocked.
func TestByOrder(t *testing.T) {
	for _, opened := range orders([]int{1, 2, 3, 4}) {
		for _, blocked := range orders([]int{1, 2, 3, 4}) {
			b := letters(t, opened...)
			for i, k := range blocked {
				b.block(t, k, "a")
				if i%2 == 0 {
					b.block(t, k, "b")
				}
			}
			b.wantAsked(t, fmt.Sprint("opened ", opened, ", blocked ", blocked))
			b.wantOwners(t, opened...)
			b.wantBy(t, "a", opened...)
		}
	}
}

// P17.1: By goes by the order of the last opening, not by that of the first one, nor by owners that were opened in vain; and blocked anew an owner keeps its place.
func TestByLastOpening(t *testing.T) {
	b := letters(t, 4, 1, 3, 2)
	for _, k := range []int{1, 2, 3, 4} {
		b.block(t, k, "a")
	}
	b.wantBy(t, "a", 4, 1, 3, 2)
	b.wantClose(t, 1, true)
	b.wantOpen(t, 4, false)
	b.wantOpen(t, 1, true)
	b.wantBy(t, "a", 4, 3, 2)
	b.wantFree(t, 3, "a", true, true)
	b.wantBlock(t, 1, "a", true, true)
	b.wantBlock(t, 3, "a", true, true)
	b.wantBy(t, "a", 4, 3, 2, 1)
	b.wantClose(t, 4, true)
	b.wantBy(t, "a", 3, 2, 1)
	b.wantOpen(t, 4, true)
	b.wantBlock(t, 4, "b", true, true)
	b.wantBlock(t, 4, "a", false, true)
	b.wantBy(t, "a", 3, 2, 1, 4)
	b.wantBy(t, "b", 4)
}

// P17.1: a blocker that blocks nobody any more, by Free, by Close, and by both, is told by no By; and it may block again.
func TestBlocksNobody(t *testing.T) {
	b := letters(t, 1, 2, 3)
	for _, k := range []int{1, 2, 3} {
		b.block(t, k, "a")
	}
	b.block(t, 3, "b")
	b.wantFree(t, 1, "a", true, true)
	b.wantBy(t, "a", 2, 3)
	b.wantClose(t, 3, true)
	b.wantBy(t, "a", 2)
	b.wantBy(t, "b")
	b.wantFree(t, 2, "a", true, true)
	b.wantBy(t, "a")
	if b.x.Pairs() != 0 || b.x.Len() != 2 {
		t.Error(b.x.Pairs(), b.x.Len())
	}
	b.wantOpen(t, 3, true)
	b.wantBy(t, "a")
	b.wantBy(t, "b")
	b.wantBlock(t, 3, "b", true, true)
	b.wantBlock(t, 1, "b", true, true)
	b.wantBy(t, "b", 1, 3)
}

// P17.1: Owners in the order in which they were opened the last time, whatever they are, and whoever blocks them.
func TestOwners(t *testing.T) {
	b := letters(t, 5, 0, 3)
	b.wantOwners(t, 5, 0, 3)
	b.block(t, 3, "a")
	b.block(t, 0, "a")
	b.wantOwners(t, 5, 0, 3)
	b.wantOpen(t, 5, false)
	b.wantOwners(t, 5, 0, 3)
	b.wantClose(t, 5, true)
	b.wantOpen(t, 4, true)
	b.wantOpen(t, 5, true)
	b.wantOwners(t, 0, 3, 4, 5)
	b.wantClose(t, 3, true)
	b.wantClose(t, 0, true)
	b.wantOpen(t, 0, true)
	b.wantOwners(t, 4, 5, 0)
	b.wantClose(t, 4, true)
	b.wantClose(t, 0, true)
	b.wantClose(t, 5, true)
	b.wantOwners(t)
	b.wantOpen(t, 3, true)
	b.wantOwners(t, 3)
}

// P17.1: Count, Len and Pairs behind each call, calls that ask and refused ones among them.
func TestCounts(t *testing.T) {
	x := New[string, int]()
	for i, step := range []struct {
		do                 func()
		ofA, ofB, len, all int
	}{
		{func() {}, 0, 0, 0, 0},
		{func() { x.Block("a", 1) }, 0, 0, 0, 0},
		{func() { x.Open("a") }, 0, 0, 1, 0},
		{func() { x.Block("a", 1) }, 1, 0, 1, 1},
		{func() { x.Block("a", 1) }, 1, 0, 1, 1},
		{func() { x.Open("a") }, 1, 0, 1, 1},
		{func() { x.Block("a", 2) }, 2, 0, 1, 2},
		{func() { x.Open("b") }, 2, 0, 2, 2},
		{func() { x.Block("b", 2) }, 2, 1, 2, 3},
		{func() { x.By(2) }, 2, 1, 2, 3},
		{func() { x.Owners() }, 2, 1, 2, 3},
		{func() { x.Is("b") }, 2, 1, 2, 3},
		{func() { x.Free("b", 1) }, 2, 1, 2, 3},
		{func() { x.Free("b", 2) }, 2, 0, 2, 2},
		{func() { x.Free("b", 2) }, 2, 0, 2, 2},
		{func() { x.Free("a", 2) }, 1, 0, 2, 1},
		{func() { x.Block("b", 1) }, 1, 1, 2, 2},
		{func() { x.Block("b", 0) }, 1, 2, 2, 3},
		{func() { x.Block("b", 7) }, 1, 3, 2, 4},
		{func() { x.Close("c") }, 1, 3, 2, 4},
		{func() { x.Close("b") }, 1, 0, 1, 1},
		{func() { x.Close("b") }, 1, 0, 1, 1},
		{func() { x.Block("b", 3) }, 1, 0, 1, 1},
		{func() { x.Free("b", 1) }, 1, 0, 1, 1},
		{func() { x.Open("b") }, 1, 0, 2, 1},
		{func() { x.Close("a") }, 0, 0, 1, 0},
		{func() { x.Close("b") }, 0, 0, 0, 0},
	} {
		step.do()
		if x.Count("a") != step.ofA || x.Count("b") != step.ofB || x.Len() != step.len || x.Pairs() != step.all {
			t.Errorf("step %d: Count %d and %d, Len %d, Pairs %d, want %d and %d, %d, %d", i, x.Count("a"), x.Count("b"), x.Len(), x.Pairs(), step.ofA, step.ofB, step.len, step.all)
		}
	}
}

// P17.1: what was told doesn't change by what comes later.
func TestToldStays(t *testing.T) {
	b := letters(t, 3, 1, 2)
	b.block(t, 1, "a")
	b.block(t, 3, "a")
	owners, by := b.x.Owners(), b.x.By("a")
	b.close(t, 3)
	b.open(t, 4)
	b.block(t, 4, "a")
	b.free(t, 1, "a")
	if !slices.Equal(owners, []int{3, 1, 2}) || !slices.Equal(by, []int{3, 1}) {
		t.Error(owners, by)
	}
	b.wantAsked(t, "behind all that")
}

// P17.1: what was told may be changed, and may grow, without the Blocks or another answer.
func TestToldChanged(t *testing.T) {
	b := letters(t, 3, 1, 2)
	for _, k := range []int{1, 2, 3} {
		b.block(t, k, "a")
	}
	first, second := b.x.Owners(), b.x.Owners()
	third, fourth := b.x.By("a"), b.x.By("a")
	for i := range 3 {
		first[i], third[i] = 8, 9
	}
	first, third = append(first[:1], 5, 5, 5), append(third[:0], 7)
	if !slices.Equal(second, []int{3, 1, 2}) || !slices.Equal(fourth, []int{3, 1, 2}) {
		t.Error(first, second, third, fourth)
	}
	b.wantAsked(t, "answers were changed")
	b.open(t, 8)
	b.close(t, 1)
	b.wantAsked(t, "behind more calls")
	b.wantRefused(t)
}

// P17.1: two Blocks know nothing of each other, of the same types or of others.
func TestTwo(t *testing.T) {
	a, b := letters(t, 1, 2, 3), letters(t)
	c := fresh([]string{"", "a", "b"}, []int{0, 1, 2})
	a.block(t, 1, "a")
	a.block(t, 2, "a")
	b.wantAsked(t, "nobody is open")
	b.wantBlock(t, 1, "a", false, false)
	b.wantClose(t, 2, false)
	b.wantOpen(t, 3, true)
	b.wantOpen(t, 1, true)
	b.wantBlock(t, 1, "b", true, true)
	b.wantFree(t, 1, "a", false, false)
	c.wantOpen(t, "a", true)
	c.wantBlock(t, "a", 1, true, true)
	a.wantBlock(t, 3, "b", true, true)
	a.wantClose(t, 1, true)
	b.wantBlock(t, 1, "a", false, true)
	c.wantFree(t, "a", 1, true, true)
	a.wantAsked(t, "a")
	b.wantAsked(t, "b")
	c.wantAsked(t, "c")
	a.wantOwners(t, 2, 3)
	b.wantOwners(t, 3, 1)
	c.wantOwners(t, "a")
}

// holds opens owners of a type, lets blockers of a type block them more and more, and then less and less, and holds it against the model; all owners are unlike, and all blockers.
func holds[K, V comparable](t *testing.T, ks []K, vs []V) {
	t.Helper()
	b := fresh(ks, vs)
	wantNobody(t, b.x, ks, vs)
	for _, k := range ks {
		b.wantOpen(t, k, true)
		b.wantOpen(t, k, false)
	}
	b.wantOwners(t, ks...)
	for i, v := range vs {
		for _, k := range slices.Backward(ks) {
			b.wantBlock(t, k, v, i == 0, true)
			b.wantBlock(t, k, v, false, false)
		}
		b.wantBy(t, v, ks...)
	}
	if b.x.Pairs() != len(ks)*len(vs) {
		t.Errorf("%T: Pairs is %d", b.x, b.x.Pairs())
	}
	for i, v := range vs {
		b.wantFree(t, ks[0], v, i == len(vs)-1, true)
		b.wantFree(t, ks[0], v, false, false)
	}
	b.wantClose(t, ks[0], true)
	b.wantRefused(t)
	b.wantOpen(t, ks[0], true)
	b.wantBlock(t, ks[0], vs[0], true, true)
	b.wantBy(t, vs[0], append(slices.Clone(ks[1:]), ks[0])...)
	for _, k := range slices.Backward(ks) {
		b.wantClose(t, k, true)
	}
	wantNobody(t, b.x, ks, vs)
}

// crossed holds two lists of things as owners and blockers, each way round, and each with itself.
func crossed[K, V comparable](t *testing.T, ks []K, vs []V) {
	t.Helper()
	holds(t, ks, vs)
	holds(t, vs, ks)
	holds(t, ks, ks)
	holds(t, vs, vs)
}

// P17.1: owners and blockers of several types, of the same one and of different ones, zero values among them.
func TestTypes(t *testing.T) {
	type part struct {
		name string
		l    [2]bool
	}
	type whole struct {
		a, b int
		p    part
	}
	one, other := whole{a: 1}, whole{a: 1}
	numbers := []int{0, 1, -1, math.MaxInt, math.MinInt, 1 << 32, 1<<32 + 1}
	texts := []string{"", "a", "A", "a ", "\x00", "\x00\x00", "\xff", "ä", strings.Repeat("a", 1000)}
	structs := []whole{{}, {a: 1}, {b: 1}, {p: part{name: "a"}}, {p: part{l: [2]bool{false, true}}}}
	arrays := [][3]int{{}, {1, 2, 3}, {3, 2, 1}, {0, 0, 1}}
	pointers := []*whole{nil, &one, &other, {}}
	crossed(t, numbers, texts)
	crossed(t, texts, structs)
	crossed(t, structs, arrays)
	crossed(t, arrays, pointers)
	crossed(t, pointers, numbers)
	crossed(t, []uint8{0, 1, 128, 255}, []int8{0, -1, -128, 127})
	crossed(t, []bool{false, true}, []struct{}{{}})
	crossed(t, []float64{0, 0.5, -0.5, math.Inf(1), math.Inf(-1)}, []uint64{0, 1, 1 << 63, math.MaxUint64})
	crossed(t, []api.Triple{{}, {1, 2, 3}, {3, 2, 1}}, []api.Test{{}, {Back: -1}, {Field: 2, Other: 1}})
	crossed(t, []any{nil, 0, int8(0), "", false, structs[0], arrays[0], pointers[0], &one, api.OK, api.ErrNone}, []error{nil, fmt.Errorf("a"), fmt.Errorf("a")})
	crossed(t, []chan int{nil, make(chan int), make(chan int)}, [][0]int{{}})
}

// P17.1: an owner and a blocker that are alike are two: who blocks itself is blocked by itself alone, and closed doesn't cease to block.
func TestItself(t *testing.T) {
	all := []int{0, 1, 2}
	b := fresh(all, all)
	for _, k := range all {
		b.open(t, k)
	}
	b.wantBlock(t, 1, 1, true, true)
	b.wantBlock(t, 1, 2, false, true)
	b.wantBlock(t, 2, 1, true, true)
	b.wantBlock(t, 0, 0, true, true)
	b.wantBy(t, 1, 1, 2)
	b.wantClose(t, 1, true)
	b.wantBy(t, 1, 2)
	b.wantBy(t, 2)
	b.wantFree(t, 2, 1, true, true)
	b.wantFree(t, 0, 0, true, true)
}

// P17.1: pointers to alike things are two, and what they point to may change; alike texts, zeros and interfaces are one, however they were made.
func TestAlike(t *testing.T) {
	one, other := 5, 5
	p := fresh([]*int{nil, &one, &other}, []*int{nil, &one, &other})
	p.wantOpen(t, &one, true)
	p.wantBlock(t, &other, &one, false, false)
	p.wantBlock(t, &one, &other, true, true)
	one, other = 7, 8
	p.wantAsked(t, "what they point to has changed")
	p.wantFree(t, &one, &one, false, false)
	p.wantFree(t, &one, &other, true, true)
	x := New[string, float64]()
	if !x.Open("abc") || x.Open(string([]byte{'a', 'b', 'c'})) || !x.Is("xabcx"[1:4]) {
		t.Error("texts:", x.Owners())
	}
	x.Block("abc", 0)
	if first, ok := x.Block("abc", math.Copysign(0, -1)); first || ok || x.Count("abc") != 1 {
		t.Error("zeros:", first, ok, x.Count("abc"))
	}
	y := New[any, any]()
	if !y.Open([2]any{1, "a"}) || y.Open([2]any{1, "a"}) || !y.Open([2]any{int8(1), "a"}) || y.Len() != 2 {
		t.Error("interfaces:", y.Owners())
	}
}

// P17.1: arrays and structs are values: what was handed in, or was told, may change without the Blocks.
func TestValues(t *testing.T) {
	x := New[[2]int, [1]string]()
	k, v := [2]int{1, 2}, [1]string{"a"}
	x.Open(k)
	x.Block(k, v)
	k[0], v[0] = 9, "b"
	x.Owners()[0][1] = 9
	x.By([1]string{"a"})[0][0] = 9
	if x.Is(k) || !x.Is([2]int{1, 2}) || x.Count([2]int{1, 2}) != 1 || len(x.By(v)) != 0 || len(x.By([1]string{"a"})) != 1 {
		t.Error(x.Owners(), x.Count([2]int{1, 2}), x.By(v))
	}
}

// call is one of the calls that change Blocks: 0 Open, 1 Close, 2 Block, 3 Free.
type call struct{ kind, k, v int }

func (b *both[K, V]) do(t *testing.T, kind int, k K, v V) {
	t.Helper()
	switch kind {
	case 0:
		b.open(t, k)
	case 1:
		b.close(t, k)
	case 2:
		b.block(t, k, v)
	case 3:
		b.free(t, k, v)
	}
}

// play does these calls to Blocks with so many owners open, and holds what is asked behind the last one against the model.
func play(t *testing.T, l []call, open int) {
	t.Helper()
	b := fresh([]int{0, 1, 2}, []int{0, 1, 2})
	for k := range open {
		b.open(t, k)
	}
	for _, c := range l {
		b.do(t, c.kind, c.k, c.v)
	}
	b.wantAsked(t, fmt.Sprint(open, " open, then ", l))
}

// playAll plays all rows that go on from one by so many calls more.
func playAll(t *testing.T, l []call, open, more int) int {
	t.Helper()
	play(t, l, open)
	n := 1
	if more == 0 {
		return n
	}
	for kind := range 4 {
		for k := range 2 {
			for v := range 2 {
				if kind < 2 && v > 0 {
					continue
				}
				n += playAll(t, append(slices.Clone(l), call{kind, k, v}), open, more-1)
			}
		}
	}
	return n
}

// P17.1: all rows of up to four calls of two owners and two blockers, from Blocks of which nobody, one and both are open.
func TestAllCalls(t *testing.T) {
	for open := range 3 {
		if n := playAll(t, nil, open, 4); n != 1+12+144+1728+20736 {
			t.Error("only so many rows:", n)
		}
	}
}

// P17.1: calls by chance, on Blocks that grow, and on such as shrink and grow again.
func TestRandom(t *testing.T) {
	for seed := range int64(80) {
		r := rand.New(rand.NewSource(seed))
		owners, blockers := 1+r.Intn(8), 1+r.Intn(6)
		var all []int
		for i := range 10 {
			all = append(all, i-1)
		}
		b := fresh(all, all)
		for i := range 400 {
			kind := r.Intn(4)
			// For a while most calls make more, then most make less, so that there are long and short rows, and empty ones.
			if r.Intn(3) > 0 {
				kind = []int{0, 2, 3, 2, 1, 3, 2}[(i/80+int(seed))%7]
			}
			b.do(t, kind, r.Intn(owners), r.Intn(blockers))
			b.wantAsked(t, fmt.Sprint("seed ", seed, ", call ", i))
		}
	}
}

// P17.1: calls by chance on several Blocks at a time, of triples and texts.
func TestRandomBeside(t *testing.T) {
	var ks []api.Triple
	for n := range 8 {
		ks = append(ks, api.Triple{n / 4, n / 2 % 2, n % 2})
	}
	vs := []string{"", "a", "b", "ab"}
	for seed := range int64(30) {
		r := rand.New(rand.NewSource(seed))
		l := []*both[api.Triple, string]{fresh(ks, vs), fresh(ks, vs), fresh(ks, vs)}
		for i := range 200 {
			kind := []int{0, 1, 2, 2, 2, 3}[r.Intn(6)]
			l[r.Intn(3)].do(t, kind, ks[r.Intn(len(ks))], vs[r.Intn(len(vs))])
			for j, b := range l {
				b.wantAsked(t, fmt.Sprint("seed ", seed, ", call ", i, ", Blocks ", j))
			}
		}
	}
}

// P17.1: many owners, with many blockers each, of which many come and go.
func TestMany(t *testing.T) {
	const n = 300
	x := New[int, int]()
	for k := range n {
		x.Open((k * 7) % n)
		for v := range n {
			if first, ok := x.Block((k*7)%n, v); first != (v == 0) || !ok {
				t.Fatal("Block:", k, v, first, ok)
			}
		}
	}
	if x.Len() != n || x.Pairs() != n*n {
		t.Fatal(x.Len(), x.Pairs())
	}
	for k := 0; k < n; k += 2 {
		x.Close(k)
	}
	for v := 1; v < n; v++ {
		if last, ok := x.Free(1, v); last || !ok {
			t.Fatal("Free:", v, last, ok)
		}
	}
	var want []int
	for k := range n {
		if (k*7)%n%2 == 1 {
			want = append(want, (k*7)%n)
		}
	}
	if got := x.Owners(); !slices.Equal(got, want) || x.Len() != n/2 || x.Pairs() != (n/2-1)*n+1 {
		t.Error(got, x.Len(), x.Pairs())
	}
	if got := x.By(0); !slices.Equal(got, want) {
		t.Error("By(0):", got)
	}
	if got := x.By(n - 1); len(got) != n/2-1 || slices.Contains(got, 1) {
		t.Error("By of the last:", got)
	}
}

// P17.1: what can't be compared, as it may be in an interface, neither owns nor blocks, and no call panics.
func TestNotComparable(t *testing.T) {
	type wrong struct{ l []int }
	all := []any{nil, 1, "a"}
	b := fresh(all, all)
	bad := func() {
		t.Helper()
		for _, w := range []any{[]int{1}, []int(nil), map[int]int{}, func() {}, wrong{}, [1]any{[]int{}}} {
			if b.x.Open(w) || b.x.Close(w) || b.x.Is(w) || b.x.Count(w) != 0 || len(b.x.By(w)) != 0 {
				t.Errorf("a %T", w)
			}
			for _, o := range []any{nil, 1, w} {
				first, ok := b.x.Block(o, w)
				last, was := b.x.Free(o, w)
				if first || ok || last || was {
					t.Errorf("Block or Free of %v by a %T", o, w)
				}
				first, ok = b.x.Block(w, o)
				last, was = b.x.Free(w, o)
				if first || ok || last || was {
					t.Errorf("Block or Free of a %T", w)
				}
			}
		}
		b.wantAsked(t, "behind what can't be compared")
	}
	bad()
	for _, k := range []any{1, nil} {
		b.open(t, k)
		bad()
		b.block(t, k, 1)
		b.block(t, k, nil)
		bad()
	}
	b.close(t, 1)
	bad()
}

// P17.1: what isn't like itself by == is nobody who is open, or who blocks, yet; all else is as it was, and goes on.
func TestUnlikeItself(t *testing.T) {
	nan := math.NaN()
	b := fresh([]float64{0, 1, nan}, []float64{0, 1, nan})
	b.open(t, 1)
	b.block(t, 1, 0)
	b.wantBlock(t, nan, 0, false, false)
	b.wantClose(t, nan, false)
	b.wantBlock(t, 1, nan, false, true)
	b.wantFree(t, 1, nan, false, false)
	if len(b.x.By(nan)) != 0 || b.x.Is(nan) || b.x.Count(nan) != 0 {
		t.Error(b.x.By(nan), b.x.Is(nan), b.x.Count(nan))
	}
	b.wantClose(t, 1, true)
	if !b.x.Open(nan) || b.x.Len() != 1 || b.x.Is(nan) || b.x.Close(nan) || len(b.x.Owners()) != 1 || b.x.Pairs() != 0 {
		t.Error(b.x.Len(), b.x.Is(nan), b.x.Owners(), b.x.Pairs())
	}
	b.x.Open(0)
	if first, ok := b.x.Block(0, 1); !first || !ok || !slices.Equal(b.x.By(1), []float64{0}) {
		t.Error(first, ok, b.x.By(1))
	}
}
