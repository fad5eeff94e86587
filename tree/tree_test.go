package tree

import (
	"errors"
	"fmt"
	"math"
	"math/rand"
	"slices"
	"strings"
	"testing"

	"retiary/api"
)

// entry is a token of the model.
type entry[N comparable] struct {
	id, parent int
	at         N
	fact       int
}

// model is the chapter's words, plainly: the tokens by their numbers, rising, and the last number that was given.
type model[N comparable] struct {
	row   []entry[N]
	given int
}

func newModel[N comparable](at N) *model[N] {
	return &model[N]{row: []entry[N]{{id: 1, at: at}}, given: 1}
}

// find is a token, if there is one of that number.
func (m *model[N]) find(id int) (entry[N], bool) {
	for _, e := range m.row {
		if e.id == id {
			return e, true
		}
	}
	return entry[N]{}, false
}

// those is the numbers of the tokens of which something is true.
func (m *model[N]) those(is func(e entry[N]) bool) []int {
	var l []int
	for _, e := range m.row {
		if is(e) {
			l = append(l, e.id)
		}
	}
	return l
}

func (m *model[N]) add(parent int, at N, fact int) (int, api.Errno) {
	if _, ok := m.find(parent); !ok {
		return 0, api.ErrNone
	}
	m.given++
	m.row = append(m.row, entry[N]{m.given, parent, at, fact})
	return m.given, api.OK
}

func (m *model[N]) delete(id int) ([]Gone[N], api.Errno) {
	e, ok := m.find(id)
	switch {
	case id == 1:
		return nil, api.ErrArg
	case !ok:
		return nil, api.ErrNone
	}
	var out []Gone[N]
	for _, kid := range m.kids(id) {
		l, _ := m.delete(kid)
		out = append(out, l...)
	}
	m.row = slices.DeleteFunc(m.row, func(e entry[N]) bool { return e.id == id })
	return append(out, Gone[N]{e.id, e.at, e.fact}), api.OK
}

func (m *model[N]) at(at N) []int {
	return m.those(func(e entry[N]) bool { return e.at == at })
}

func (m *model[N]) with(fact int) []int {
	return m.those(func(e entry[N]) bool { return fact != 0 && e.fact == fact })
}

func (m *model[N]) kids(id int) []int {
	return m.those(func(e entry[N]) bool { return e.id != 1 && e.parent == id })
}

// above is the token and those above it, from it on.
func (m *model[N]) above(id int) []entry[N] {
	e, ok := m.find(id)
	if !ok {
		return nil
	}
	return append([]entry[N]{e}, m.above(e.parent)...)
}

func (m *model[N]) up(id int, at N) (int, bool) {
	for _, e := range m.above(id) {
		if e.at == at {
			return e.id, true
		}
	}
	return 0, false
}

func (m *model[N]) factsOf(id int) []int {
	var l []int
	for _, e := range m.above(id) {
		if e.fact != 0 {
			l = append([]int{e.fact}, l...)
		}
	}
	return l
}

// far is numbers of tokens that there never are, and of facts that no token here has.
var far = []int{-1, -2, -3, math.MinInt, math.MinInt + 1, math.MinInt32, math.MaxInt, math.MaxInt - 1, 1 << 32, 1<<32 + 1, 1<<32 + 2, 1 << 62}

// numbers is all numbers that were given, 0, the next ones, and those that there never are.
func numbers(given int) []int {
	l := slices.Clone(far)
	for id := 0; id <= given+3; id++ {
		l = append(l, id)
	}
	return l
}

// wantToken wants of all calls that ask for one token what the model has.
func wantToken[N comparable](t *testing.T, x *Tree[N], m *model[N], id int, places []N, what string) {
	t.Helper()
	e, there := m.find(id)
	if got := x.Parent(id); got != e.parent {
		t.Fatalf("%s: Parent(%d) is %d, want %d", what, id, got, e.parent)
	}
	if got := x.Fact(id); got != e.fact {
		t.Fatalf("%s: Fact(%d) is %d, want %d", what, id, got, e.fact)
	}
	if at, ok := x.Place(id); at != e.at || ok != there {
		t.Fatalf("%s: Place(%d) is %v %v, want %v %v", what, id, at, ok, e.at, there)
	}
	if got, want := x.Kids(id), m.kids(id); !slices.Equal(got, want) {
		t.Fatalf("%s: Kids(%d) is %v, want %v", what, id, got, want)
	}
	if got, want := x.Facts(id), m.factsOf(id); !slices.Equal(got, want) {
		t.Fatalf("%s: Facts(%d) is %v, want %v", what, id, got, want)
	}
	for _, at := range places {
		up, ok := x.Up(id, at)
		if want, wantOk := m.up(id, at); up != want || ok != wantOk {
			t.Fatalf("%s: Up(%d, %v) is %d %v, want %d %v", what, id, at, up, ok, want, wantOk)
		}
	}
}

// wantAsked wants of all calls that ask for something what the model has: for these places, for each number, and for the facts there are and others.
func wantAsked[N comparable](t *testing.T, x *Tree[N], m *model[N], places []N, what string) {
	t.Helper()
	if got := x.Len(); got != len(m.row) {
		t.Fatalf("%s: Len is %d, want %d", what, got, len(m.row))
	}
	facts := append(slices.Clone(far), 0, 1, 2, 3)
	for _, e := range m.row {
		facts = append(facts, e.fact, e.fact+1)
	}
	for _, f := range facts {
		if got, want := x.With(f), m.with(f); !slices.Equal(got, want) {
			t.Fatalf("%s: With(%d) is %v, want %v", what, f, got, want)
		}
	}
	for _, at := range places {
		if got, want := x.At(at), m.at(at); !slices.Equal(got, want) {
			t.Fatalf("%s: At(%v) is %v, want %v", what, at, got, want)
		}
	}
	for _, id := range numbers(m.given) {
		wantToken(t, x, m, id, places, what)
	}
}

// wantAdd and wantDelete do it to a tree and its model, and want that they answer alike.
func wantAdd[N comparable](t *testing.T, x *Tree[N], m *model[N], parent int, at N, fact int) {
	t.Helper()
	id, e := x.Add(parent, at, fact)
	if want, we := m.add(parent, at, fact); id != want || e != we {
		t.Fatalf("Add(%d, %v, %d) is %d, error %d, want %d, error %d", parent, at, fact, id, e, want, we)
	}
}

func wantDelete[N comparable](t *testing.T, x *Tree[N], m *model[N], id int) {
	t.Helper()
	l, e := x.Delete(id)
	if want, we := m.delete(id); !slices.Equal(l, want) || e != we {
		t.Fatalf("Delete(%d) is %v, error %d, want %v, error %d", id, l, e, want, we)
	}
}

// row is what is handed to Add.
type row[N comparable] struct {
	parent int
	at     N
	fact   int
}

// grown is a tree whose top stands at a place, with tokens that were added below each other, and its model.
func grown[N comparable](t *testing.T, at N, rows ...row[N]) (*Tree[N], *model[N]) {
	t.Helper()
	x, m := New(at), newModel(at)
	for _, r := range rows {
		wantAdd(t, x, m, r.parent, r.at, r.fact)
	}
	return x, m
}

// wide is a tree whose tokens lie up to four deep, those of one parent with others in between, at three places, one of them twice in one line; and its model.
func wide(t *testing.T) (*Tree[int], *model[int]) {
	t.Helper()
	return grown(t, 0,
		row[int]{1, 10, 7}, // 2
		row[int]{1, 20, 0}, // 3
		row[int]{2, 10, 8}, // 4
		row[int]{3, 10, 7}, // 5
		row[int]{2, 0, 0},  // 6
		row[int]{4, 20, 7}, // 7
		row[int]{1, 10, 9}, // 8
		row[int]{2, 20, 8}, // 9
		row[int]{4, 10, 0}, // 10
		row[int]{7, 0, 9},  // 11
		row[int]{5, 20, 5}, // 12
		row[int]{7, 10, 7}, // 13
	)
}

// widePlaces is the places of wide, and others.
func widePlaces() []int { return []int{0, 10, 20, 30, -1, math.MaxInt, math.MinInt} }

// ids is the numbers of tokens that are out.
func ids[N comparable](l []Gone[N]) []int {
	var out []int
	for _, g := range l {
		out = append(out, g.Id)
	}
	return out
}

// P15.1: what the chapter's example says.
func TestExample(t *testing.T) {
	x := New("top")
	var got []int
	for _, parent := range []int{1, 1, 2} {
		id, e := x.Add(parent, "", 0)
		if e != api.OK {
			t.Error("Add below", parent, e)
		}
		got = append(got, id)
	}
	if !slices.Equal(got, []int{2, 3, 4}) {
		t.Error("Add:", got)
	}
	if l, e := x.Delete(2); !slices.Equal(ids(l), []int{4, 2}) || e != api.OK {
		t.Error("Delete:", l, e)
	}
}

// wantTopAlone wants of a new tree that it has the top alone, at the first place of a list.
func wantTopAlone[N comparable](t *testing.T, places ...N) {
	t.Helper()
	for _, at := range places {
		x := New(at)
		if x.Len() != 1 || x.Parent(1) != 0 || x.Fact(1) != 0 || len(x.Kids(1)) != 0 || len(x.Kids(0)) != 0 || len(x.Facts(1)) != 0 || len(x.With(0)) != 0 {
			t.Errorf("top at %v: %d, %d, %d, %v, %v, %v, %v", at, x.Len(), x.Parent(1), x.Fact(1), x.Kids(1), x.Kids(0), x.Facts(1), x.With(0))
		}
		if p, ok := x.Place(1); p != at || !ok {
			t.Errorf("top at %v: Place is %v %v", at, p, ok)
		}
		if l := x.At(at); !slices.Equal(l, []int{1}) {
			t.Errorf("top at %v: At is %v", at, l)
		}
		if up, ok := x.Up(1, at); up != 1 || !ok {
			t.Errorf("top at %v: Up is %d %v", at, up, ok)
		}
		wantAsked(t, x, newModel(at), places, fmt.Sprint("top at ", at))
	}
}

// P15.1: a new tree has the top alone, wherever it stands.
func TestNew(t *testing.T) {
	wantTopAlone(t, 0, 1, 2, -1, math.MaxInt, math.MinInt)
	wantTopAlone(t, "", "a", "b", "a ")
	wantTopAlone(t, false, true)
	wantTopAlone(t, struct{}{})
	wantTopAlone(t, api.Triple{}, api.Triple{1, 2, 3}, api.Triple{0, 0, 1})
	wantTopAlone(t, nil, new(int), new(int))
	wantTopAlone[any](t, nil, 0, "", 1, int8(1), false)
}

// P15.1: each new token gets the next number, below the top or below any other, and is what was handed in.
func TestAdd(t *testing.T) {
	x := New(5)
	for i, r := range []row[int]{{1, 5, 9}, {2, 6, 0}, {1, 0, 1024}, {3, 5, 9}, {2, -7, math.MaxInt}, {1, 5, 0}, {6, 6, 1}, {8, 6, 1}, {9, math.MinInt, 1}} {
		id, e := x.Add(r.parent, r.at, r.fact)
		if id != i+2 || e != api.OK || x.Len() != i+2 {
			t.Errorf("Add %d: %d, error %d, Len %d", i, id, e, x.Len())
		}
		if at, ok := x.Place(id); at != r.at || !ok || x.Parent(id) != r.parent || x.Fact(id) != r.fact || len(x.Kids(id)) != 0 {
			t.Errorf("token %d: %d %v, parent %d, fact %d, kids %v", id, at, ok, x.Parent(id), x.Fact(id), x.Kids(id))
		}
		if l := x.Kids(r.parent); len(l) == 0 || l[len(l)-1] != id {
			t.Errorf("token %d: its parent has %v", id, l)
		}
	}
	if x.Parent(1) != 0 || x.Fact(1) != 0 {
		t.Error("the top:", x.Parent(1), x.Fact(1))
	}
}

// P15.1: Add below a number that was never given, or is out, answers ErrNone, changes nothing, and uses no number up.
func TestAddNone(t *testing.T) {
	x, m := wide(t)
	wantDelete(t, x, m, 4)
	wantDelete(t, x, m, 12)
	for _, parent := range append(slices.Clone(far), 0, 4, 7, 10, 11, 13, 12, 14, 15) {
		for range 2 {
			if id, e := x.Add(parent, 10, 7); id != 0 || e != api.ErrNone {
				t.Errorf("Add below %d: %d, error %d", parent, id, e)
			}
		}
		wantAsked(t, x, m, widePlaces(), fmt.Sprint("refused below ", parent))
	}
	if id, e := x.Add(1, 10, 7); id != 14 || e != api.OK {
		t.Error("behind what was refused:", id, e)
	}
	if id, e := x.Add(14, 10, 7); id != 15 || e != api.OK {
		t.Error("below the newest one:", id, e)
	}
}

// P15.1: no number is used again, whichever tokens are out: the newest one, all but the top, or those in between.
func TestNumbersRise(t *testing.T) {
	x, m := grown(t, "t")
	for round := range 12 {
		for i := range round {
			wantAdd(t, x, m, 1, "a", i)
			wantAdd(t, x, m, m.given, "b", i)
		}
		wantAdd(t, x, m, 1, "c", 3)
		wantDelete(t, x, m, m.given)
		if round%3 == 0 {
			for _, kid := range x.Kids(1) {
				wantDelete(t, x, m, kid)
			}
			if x.Len() != 1 {
				t.Error("all are out, but", x.Len())
			}
		}
		wantAsked(t, x, m, []string{"", "a", "b", "c", "t"}, fmt.Sprint("round ", round))
	}
	if id, e := x.Add(1, "", 0); id != 2+12+11*12 || e != api.OK {
		t.Error("the last number:", id, e)
	}
}

// P15.1: the top is never out: Delete of 1 answers ErrArg and changes nothing.
func TestDeleteTop(t *testing.T) {
	x, m := grown(t, 3)
	wanted := func(what string) {
		t.Helper()
		for range 2 {
			if l, e := x.Delete(1); len(l) != 0 || e != api.ErrArg {
				t.Errorf("%s: %v, error %d", what, l, e)
			}
		}
		wantAsked(t, x, m, []int{0, 3, 4}, what)
	}
	wanted("the top alone")
	wantAdd(t, x, m, 1, 3, 1)
	wantAdd(t, x, m, 2, 4, 2)
	wanted("with others")
	wantDelete(t, x, m, 2)
	wanted("alone again")
	wantAdd(t, x, m, 1, 3, 1)
	wantAsked(t, x, m, []int{0, 3, 4}, "the next one")
}

// P15.1: Delete of no token, or of one that is out, by itself or with one above it, answers ErrNone and changes nothing.
func TestDeleteNone(t *testing.T) {
	x, m := wide(t)
	wantDelete(t, x, m, 7)
	wantDelete(t, x, m, 3)
	for _, id := range append(slices.Clone(far), 0, 3, 5, 7, 11, 12, 13, 14, 15) {
		for range 2 {
			if l, e := x.Delete(id); len(l) != 0 || e != api.ErrNone {
				t.Errorf("Delete(%d): %v, error %d", id, l, e)
			}
		}
		wantAsked(t, x, m, widePlaces(), fmt.Sprint("refused ", id))
	}
	if id, e := x.Add(10, 10, 7); id != 14 || e != api.OK {
		t.Error("behind what was refused:", id, e)
	}
}

// P15.1: what Delete tells of each token of a tree, written out: its place and its fact, behind all below it, those of one parent rising.
func TestDeleteTells(t *testing.T) {
	for id, want := range map[int][]Gone[int]{
		2:  {{11, 0, 9}, {13, 10, 7}, {7, 20, 7}, {10, 10, 0}, {4, 10, 8}, {6, 0, 0}, {9, 20, 8}, {2, 10, 7}},
		3:  {{12, 20, 5}, {5, 10, 7}, {3, 20, 0}},
		4:  {{11, 0, 9}, {13, 10, 7}, {7, 20, 7}, {10, 10, 0}, {4, 10, 8}},
		5:  {{12, 20, 5}, {5, 10, 7}},
		6:  {{6, 0, 0}},
		7:  {{11, 0, 9}, {13, 10, 7}, {7, 20, 7}},
		8:  {{8, 10, 9}},
		9:  {{9, 20, 8}},
		10: {{10, 10, 0}},
		11: {{11, 0, 9}},
		12: {{12, 20, 5}},
		13: {{13, 10, 7}},
	} {
		x, m := wide(t)
		if l, e := x.Delete(id); !slices.Equal(l, want) || e != api.OK {
			t.Errorf("Delete(%d): %v, error %d, want %v", id, l, e, want)
		}
		m.delete(id)
		wantAsked(t, x, m, widePlaces(), fmt.Sprint("without ", id))
	}
}

// P15.1: those of one parent go by their numbers, also where more than ten of them lie between others, and each line of theirs to its end ahead of the next one.
func TestDeleteOrder(t *testing.T) {
	x, m := grown(t, 0, row[int]{1, 0, 0}, row[int]{1, 0, 0})
	var want []int
	for i := range 40 {
		wantAdd(t, x, m, 2, i, i)
		wantAdd(t, x, m, 3, i, i)
	}
	for i := 39; i >= 0; i-- {
		wantAdd(t, x, m, 4+2*i, 1, 1)
		wantAdd(t, x, m, m.given, 2, 2)
		wantAdd(t, x, m, 5+2*i, 3, 3)
	}
	for i := range 40 {
		below := 84 + 3*(39-i)
		want = append(want, below+1, below, 4+2*i)
	}
	l, e := x.Delete(2)
	if !slices.Equal(ids(l), append(want, 2)) || e != api.OK {
		t.Error(ids(l), e)
	}
	m.delete(2)
	wantAsked(t, x, m, []int{0, 1, 2, 3}, "the others stay")
}

// eachShape hands on each way in which so many tokens may lie below each other: the parents of 2, 3, and so on.
func eachShape(n int, f func(parents []int)) {
	var grow func(l []int)
	grow = func(l []int) {
		if len(l) == n {
			f(l)
			return
		}
		for p := 1; p <= len(l)+1; p++ {
			grow(append(slices.Clone(l), p))
		}
	}
	grow(nil)
}

// P15.1: of each tree of up to seven tokens each one is deleted: what that tells, and what is left.
func TestAllShapes(t *testing.T) {
	shapes := 0
	for n := range 7 {
		eachShape(n, func(parents []int) {
			shapes++
			for id := range n + 3 {
				x, m := grown(t, 0)
				for i, p := range parents {
					wantAdd(t, x, m, p, i%3, i%4)
				}
				wantDelete(t, x, m, id)
				wantAsked(t, x, m, []int{0, 1, 2, 3}, fmt.Sprint(parents, " without ", id))
			}
		})
	}
	if shapes != 1+1+2+6+24+120+720 {
		t.Error("only so many shapes:", shapes)
	}
}

// P15.1: a token that lies very deep, one with very many below it, and both: Delete tells all of them in their order.
func TestDeepAndWide(t *testing.T) {
	const n = 20000
	x := New(0)
	var deep, fan []int
	last := 1
	for range n {
		last, _ = x.Add(last, 1, 0)
		deep = append(deep, last)
	}
	for range n {
		id, _ := x.Add(last, 2, 0)
		fan = append(fan, id)
	}
	if x.Len() != 2*n+1 || !slices.Equal(x.At(1), deep) || !slices.Equal(x.At(2), fan) || !slices.Equal(x.Kids(last), fan) {
		t.Error("Len, At, Kids:", x.Len(), len(x.At(1)), len(x.At(2)), len(x.Kids(last)))
	}
	if up, ok := x.Up(fan[n-1], 0); up != 1 || !ok {
		t.Error("Up:", up, ok)
	}
	l, e := x.Delete(2)
	slices.Reverse(deep)
	if !slices.Equal(ids(l), append(fan, deep...)) || e != api.OK || x.Len() != 1 {
		t.Error("Delete:", len(l), e, x.Len())
	}
}

// P15.1: At, With and Kids of none, one and several, rising, where tokens at other places, with other facts and below others went in between.
func TestListsRise(t *testing.T) {
	x, m := wide(t)
	for at, want := range map[int][]int{0: {1, 6, 11}, 10: {2, 4, 5, 8, 10, 13}, 20: {3, 7, 9, 12}, 30: nil, -10: nil} {
		if got := x.At(at); !slices.Equal(got, want) {
			t.Errorf("At(%d): %v, want %v", at, got, want)
		}
	}
	for fact, want := range map[int][]int{0: nil, 5: {12}, 6: nil, 7: {2, 5, 7, 13}, 8: {4, 9}, 9: {8, 11}, -7: nil} {
		if got := x.With(fact); !slices.Equal(got, want) {
			t.Errorf("With(%d): %v, want %v", fact, got, want)
		}
	}
	for id, want := range map[int][]int{0: nil, 1: {2, 3, 8}, 2: {4, 6, 9}, 3: {5}, 4: {7, 10}, 5: {12}, 6: nil, 7: {11, 13}, 8: nil, 14: nil, -1: nil} {
		if got := x.Kids(id); !slices.Equal(got, want) {
			t.Errorf("Kids(%d): %v, want %v", id, got, want)
		}
	}
	for _, r := range []row[int]{{2, 20, 5}, {1, 10, 6}, {4, 0, 7}, {2, 10, 9}} {
		wantAdd(t, x, m, r.parent, r.at, r.fact)
	}
	if l := x.Kids(2); !slices.Equal(l, []int{4, 6, 9, 14, 17}) {
		t.Error("Kids behind others:", l)
	}
	wantDelete(t, x, m, 5)
	if l := x.At(10); !slices.Equal(l, []int{2, 4, 8, 10, 13, 15, 17}) {
		t.Error("At without one in between:", l)
	}
	if l := x.With(7); !slices.Equal(l, []int{2, 7, 13, 16}) {
		t.Error("With without one in between:", l)
	}
	wantAsked(t, x, m, widePlaces(), "others came and went")
}

// P15.1: one that comes last at a place, with a fact or below a parent that had no other one left is there alone.
func TestListsEmptied(t *testing.T) {
	x, m := grown(t, 0, row[int]{1, 5, 9}, row[int]{2, 6, 8}, row[int]{2, 6, 8})
	for _, id := range []int{3, 4} {
		wantDelete(t, x, m, id)
		wantAsked(t, x, m, []int{0, 5, 6}, "one is out")
	}
	if len(x.At(6))+len(x.With(8))+len(x.Kids(2)) != 0 {
		t.Error("all are out:", x.At(6), x.With(8), x.Kids(2))
	}
	wantAdd(t, x, m, 2, 6, 8)
	if want := []int{5}; !slices.Equal(x.At(6), want) || !slices.Equal(x.With(8), want) || !slices.Equal(x.Kids(2), want) {
		t.Error("one again:", x.At(6), x.With(8), x.Kids(2))
	}
}

// P15.1: tokens without a fact are told by none: not by With(0), nor by Facts.
func TestWithoutFact(t *testing.T) {
	x, m := grown(t, 0, row[int]{1, 0, 0}, row[int]{2, 0, 0}, row[int]{2, 0, 1}, row[int]{4, 0, 0})
	for range 2 {
		if l := x.With(0); len(l) != 0 {
			t.Error("With(0):", l)
		}
		wantDelete(t, x, m, 3)
	}
	for id, want := range map[int][]int{1: nil, 2: nil, 3: nil, 4: {1}, 5: {1}} {
		if l := x.Facts(id); !slices.Equal(l, want) {
			t.Errorf("Facts(%d): %v", id, l)
		}
		if x.Fact(id) != 0 && id != 4 {
			t.Errorf("Fact(%d): %d", id, x.Fact(id))
		}
	}
	wantDelete(t, x, m, 2)
	wantAsked(t, x, m, []int{0}, "all are out")
}

// P15.1: Up is the token itself, if it stands there, else the nearest one above it; no sibling, none below it, and none of no token.
func TestUp(t *testing.T) {
	x, _ := wide(t)
	for _, c := range []struct {
		id, at, want int
	}{
		{13, 10, 13}, {13, 20, 7}, {13, 0, 1}, {13, 30, 0},
		{11, 0, 11}, {11, 20, 7}, {11, 10, 4}, {11, -10, 0},
		{7, 20, 7}, {7, 10, 4}, {7, 0, 1},
		{4, 10, 4}, {4, 20, 0}, {4, 0, 1},
		{9, 10, 2}, {9, 20, 9}, {6, 0, 6}, {6, 10, 2}, {6, 20, 0},
		{12, 20, 12}, {12, 10, 5}, {5, 20, 3}, {3, 10, 0}, {8, 20, 0},
		{1, 0, 1}, {1, 10, 0},
		{0, 0, 0}, {14, 0, 0}, {-1, 0, 0}, {math.MaxInt, 0, 0}, {math.MinInt, 10, 0},
	} {
		if up, ok := x.Up(c.id, c.at); up != c.want || ok != (c.want > 0) {
			t.Errorf("Up(%d, %d): %d %v, want %d", c.id, c.at, up, ok, c.want)
		}
	}
	x.Delete(4)
	for _, id := range []int{4, 7, 10, 11, 13} {
		for _, at := range []int{0, 10, 20} {
			if up, ok := x.Up(id, at); up != 0 || ok {
				t.Errorf("out: Up(%d, %d): %d %v", id, at, up, ok)
			}
		}
	}
	if up, ok := x.Up(9, 10); up != 2 || !ok {
		t.Error("a sibling's line stays:", up, ok)
	}
}

// P15.1: Facts goes from the top on, tells the same fact as often as it is there, and leaves out tokens without one.
func TestFacts(t *testing.T) {
	x, _ := wide(t)
	for id, want := range map[int][]int{
		-1: nil, 0: nil, 1: nil, 2: {7}, 3: nil, 4: {7, 8}, 5: {7}, 6: {7}, 7: {7, 8, 7}, 8: {9}, 9: {7, 8},
		10: {7, 8}, 11: {7, 8, 7, 9}, 12: {7, 5}, 13: {7, 8, 7, 7}, 14: nil, math.MaxInt: nil,
	} {
		if got := x.Facts(id); !slices.Equal(got, want) {
			t.Errorf("Facts(%d): %v, want %v", id, got, want)
		}
	}
	x.Delete(7)
	for id, want := range map[int][]int{4: {7, 8}, 7: nil, 11: nil, 13: nil, 12: {7, 5}} {
		if got := x.Facts(id); !slices.Equal(got, want) {
			t.Errorf("without 7: Facts(%d): %v, want %v", id, got, want)
		}
	}
}

// P15.1: of a token that is out nothing is told, of those that stay all is as it was.
func TestOut(t *testing.T) {
	x, m := wide(t)
	wantDelete(t, x, m, 4)
	for _, id := range []int{4, 7, 10, 11, 13} {
		if at, ok := x.Place(id); at != 0 || ok || x.Parent(id) != 0 || x.Fact(id) != 0 || len(x.Kids(id)) != 0 || len(x.Facts(id)) != 0 {
			t.Errorf("%d is out: %d %v, %d, %d, %v, %v", id, at, ok, x.Parent(id), x.Fact(id), x.Kids(id), x.Facts(id))
		}
	}
	if x.Len() != 8 || !slices.Equal(x.Kids(2), []int{6, 9}) || !slices.Equal(x.At(10), []int{2, 5, 8}) || !slices.Equal(x.With(7), []int{2, 5}) {
		t.Error("what stays:", x.Len(), x.Kids(2), x.At(10), x.With(7))
	}
	wantAsked(t, x, m, widePlaces(), "one with others below it is out")
	for _, id := range []int{9, 2, 12, 3, 8} {
		wantDelete(t, x, m, id)
		wantAsked(t, x, m, widePlaces(), fmt.Sprint(id, " is out, too"))
	}
	if x.Len() != 1 {
		t.Error("the top alone:", x.Len())
	}
}

// P15.1: Len behind each call, calls that ask and refused ones among them.
func TestLen(t *testing.T) {
	x := New(0)
	for i, step := range []struct {
		do   func()
		want int
	}{
		{func() {}, 1},
		{func() { x.Delete(1) }, 1},
		{func() { x.Delete(2) }, 1},
		{func() { x.Add(2, 0, 0) }, 1},
		{func() { x.Add(1, 0, 0) }, 2},
		{func() { x.Add(2, 0, 0) }, 3},
		{func() { x.Add(2, 0, 0) }, 4},
		{func() { x.Add(4, 0, 0) }, 5},
		{func() { x.At(9) }, 5},
		{func() { x.With(9) }, 5},
		{func() { x.Kids(9) }, 5},
		{func() { x.Up(5, 9) }, 5},
		{func() { x.Facts(9) }, 5},
		{func() { x.Place(9) }, 5},
		{func() { x.Delete(3) }, 4},
		{func() { x.Delete(3) }, 4},
		{func() { x.Add(3, 0, 0) }, 4},
		{func() { x.Add(1, 0, 0) }, 5},
		{func() { x.Delete(2) }, 2},
		{func() { x.Delete(1) }, 2},
		{func() { x.Delete(6) }, 1},
		{func() { x.Delete(6) }, 1},
		{func() { x.Add(1, 0, 0) }, 2},
	} {
		if step.do(); x.Len() != step.want {
			t.Errorf("step %d: Len is %d, want %d", i, x.Len(), step.want)
		}
	}
}

// chance does random calls to a tree and its model, with few facts and these places, the first of which is the top's, and holds all that can be asked against each other behind each of them.
func chance[N comparable](t *testing.T, seed int64, calls int, places ...N) {
	t.Helper()
	r := rand.New(rand.NewSource(seed))
	x, m := grown(t, places[0])
	for i := range calls {
		id := r.Intn(m.given + 3)
		if r.Intn(2) == 0 {
			id = m.row[r.Intn(len(m.row))].id
		}
		if r.Intn(4) == 0 {
			wantDelete(t, x, m, id)
		} else {
			wantAdd(t, x, m, id, places[r.Intn(len(places))], r.Intn(4))
		}
		wantAsked(t, x, m, places, fmt.Sprint("seed ", seed, ", call ", i))
	}
}

// P15.1: random calls, held against the model behind each of them.
func TestRandom(t *testing.T) {
	for seed := range int64(40) {
		chance(t, seed, 100, 3, 0, 1, 2)
	}
}

// P15.1: places of several types, the zero value of each among them.
func TestPlaces(t *testing.T) {
	type point struct {
		x, y int
		name string
	}
	type number int
	for seed := range int64(8) {
		chance(t, seed, 60, 0, 1, -1, math.MaxInt, math.MinInt)
		chance(t, seed, 60, uint8(255), 0, 1)
		chance(t, seed, 60, number(7), 0, 1)
		chance(t, seed, 60, "", "a", "b", " ", "a ", "\x00")
		chance(t, seed, 60, false, true)
		chance(t, seed, 60, 'a', 0, 'b')
		chance(t, seed, 60, struct{}{})
		chance(t, seed, 60, point{}, point{1, 0, ""}, point{0, 1, ""}, point{0, 0, "a"})
		chance(t, seed, 60, [2]string{}, [2]string{"a", ""}, [2]string{"", "a"})
		chance(t, seed, 60, api.Triple{1, 2, 3}, api.Triple{}, api.Triple{3, 2, 1})
		chance(t, seed, 60, new(int), nil, new(int), new(int))
		chance(t, seed, 60, make(chan int), nil, make(chan int))
	}
}

// P15.1: places that are interface values: alike if their types and what is in them are.
func TestPlacesInterfaces(t *testing.T) {
	p, q := new(int), new(int)
	one, two := errors.New("a"), errors.New("a")
	for seed := range int64(8) {
		chance[any](t, seed, 60, nil, 0, 1, int8(1), uint(1), "", "1", false, p, q, (*int)(nil), api.Triple{}, api.Term{})
		chance[any](t, seed, 60, "top", nil, struct{}{}, [2]any{1, "a"}, [2]any{1, nil}, api.OK, 0)
		chance(t, seed, 60, one, nil, two, one)
		chance[fmt.Stringer](t, seed, 60, nil, new(strings.Builder), new(strings.Builder))
	}
	x := New[any](1)
	x.Add(1, int8(1), 0)
	x.Add(2, 1, 0)
	x.Add(3, p, 0)
	if l := x.At(int8(1)); !slices.Equal(l, []int{2}) {
		t.Error("of another type:", l)
	}
	if l := x.At(q); len(l) != 0 {
		t.Error("another pointer:", l)
	}
	if up, ok := x.Up(4, 1); up != 3 || !ok {
		t.Error("Up:", up, ok)
	}
}

// P15.1: the zero value of the places' type is a place like any other: of no token it isn't one.
func TestPlaceZero(t *testing.T) {
	x := New("top")
	x.Add(1, "", 1)
	x.Add(2, "a", 2)
	if at, ok := x.Place(2); at != "" || !ok || !slices.Equal(x.At(""), []int{2}) {
		t.Error("one that stands there:", at, ok, x.At(""))
	}
	if up, ok := x.Up(3, ""); up != 2 || !ok {
		t.Error("from below it:", up, ok)
	}
	for _, id := range []int{-1, 0, 4, 5} {
		if at, ok := x.Place(id); at != "" || ok {
			t.Errorf("Place(%d): %q %v", id, at, ok)
		}
		if up, ok := x.Up(id, ""); up != 0 || ok {
			t.Errorf("Up(%d): %d %v", id, up, ok)
		}
	}
	if up, ok := x.Up(1, ""); up != 0 || ok {
		t.Error("from above it:", up, ok)
	}
	if l, e := x.Delete(2); !slices.Equal(l, []Gone[string]{{3, "a", 2}, {2, "", 1}}) || e != api.OK || len(x.At("")) != 0 {
		t.Error("out:", l, e, x.At(""))
	}
}

// told is all that a tree's lists tell.
func told(x *Tree[int]) [][]int {
	return [][]int{x.At(0), x.At(10), x.At(20), x.With(7), x.With(8), x.Kids(1), x.Kids(2), x.Kids(4), x.Facts(13), x.Facts(11), x.Facts(2)}
}

// copies is such lists, copied.
func copies(l [][]int) [][]int {
	var c [][]int
	for _, s := range l {
		c = append(c, slices.Clone(s))
	}
	return c
}

// wantSame wants that lists are what they were.
func wantSame(t *testing.T, got, was [][]int, what string) {
	t.Helper()
	for i := range was {
		if !slices.Equal(got[i], was[i]) {
			t.Errorf("%s: list %d is %v, was %v", what, i, got[i], was[i])
		}
	}
}

// P15.1: what was told doesn't change by what comes later.
func TestToldStays(t *testing.T) {
	x, m := wide(t)
	first := told(x)
	was := copies(first)
	out, _ := x.Delete(7)
	m.delete(7)
	outWas := slices.Clone(out)
	for _, r := range []row[int]{{2, 10, 8}, {1, 20, 7}, {4, 0, 7}, {4, 10, 8}} {
		wantAdd(t, x, m, r.parent, r.at, r.fact)
		wantSame(t, first, was, "one came")
	}
	second := told(x)
	secondWas := copies(second)
	for _, id := range []int{4, 2, 3, 8, 15} {
		wantDelete(t, x, m, id)
	}
	wantAdd(t, x, m, 1, 10, 7)
	wantSame(t, first, was, "all are out")
	wantSame(t, second, secondWas, "all are out")
	if !slices.Equal(out, outWas) {
		t.Error("those that are out:", out, "were", outWas)
	}
}

// P15.1: what was told may be changed, and may grow, without the tree or another answer.
func TestToldChanged(t *testing.T) {
	x, m := wide(t)
	first, second := told(x), told(x)
	was := copies(second)
	for _, l := range first {
		for i := range l {
			l[i] = 99
		}
		_ = append(l[:0], 55, 66)
		_ = append(l, 77)
	}
	wantSame(t, second, was, "another answer was changed")
	wantSame(t, told(x), was, "answers were changed")
	wantAsked(t, x, m, widePlaces(), "answers were changed")
	out, _ := x.Delete(4)
	m.delete(4)
	for i := range out {
		out[i] = Gone[int]{Id: 1, At: 10, Fact: 7}
	}
	_ = append(out[:0], Gone[int]{2, 2, 2})
	wantAsked(t, x, m, widePlaces(), "those that are out were changed")
	wantAdd(t, x, m, 2, 10, 7)
	wantAsked(t, x, m, widePlaces(), "one came behind it")
}

// P15.1: two trees know nothing of each other, of one type of places or of two.
func TestTwo(t *testing.T) {
	a, am := wide(t)
	b, bm := grown(t, 10)
	c, cm := grown(t, "")
	all := func(what string) {
		t.Helper()
		wantAsked(t, a, am, widePlaces(), what+": the one")
		wantAsked(t, b, bm, widePlaces(), what+": the other one")
		wantAsked(t, c, cm, []string{"", "10"}, what+": one of texts")
	}
	all("new")
	wantAdd(t, b, bm, 2, 10, 7)
	wantDelete(t, b, bm, 2)
	all("what only the one has")
	wantAdd(t, b, bm, 1, 20, 7)
	wantAdd(t, c, cm, 1, "10", 7)
	wantAdd(t, b, bm, 2, 10, 8)
	all("the others grow")
	wantDelete(t, a, am, 2)
	all("the one shrinks")
	wantDelete(t, b, bm, 2)
	wantAdd(t, a, am, 1, 10, 8)
	all("both")
}

// call is one of the calls that change a tree: an Add if it is to be below something, else a Delete.
type call struct {
	add      bool
	id       int
	at, fact int
}

// callsAt is calls on a tree to which so many numbers were given: at each of them, at 0, and at the next one.
func callsAt(given int) []call {
	var l []call
	for id := range given + 2 {
		l = append(l, call{id: id}, call{true, id, 0, 0}, call{true, id, 1, 2})
	}
	return l
}

// playAll does all rows of so many calls more to new trees, and holds each against its model.
func playAll(t *testing.T, l []call, more int) int {
	t.Helper()
	x, m := grown(t, 0)
	for _, c := range l {
		if c.add {
			wantAdd(t, x, m, c.id, c.at, c.fact)
		} else {
			wantDelete(t, x, m, c.id)
		}
	}
	wantAsked(t, x, m, []int{0, 1}, fmt.Sprint(l))
	if more == 0 {
		return 1
	}
	n := 0
	for _, c := range callsAt(m.given) {
		n += playAll(t, append(slices.Clone(l), c), more-1)
	}
	return n
}

// P15.1: all rows of four calls, at tokens that are there, that are out, and that never were.
func TestAllCalls(t *testing.T) {
	if n := playAll(t, nil, 4); n < 10000 {
		t.Error("only so many rows:", n)
	}
}

// P15.1: calls that ask change nothing, whatever they ask for.
func TestAskingChangesNothing(t *testing.T) {
	x, m := wide(t)
	for range 3 {
		wantAsked(t, x, m, widePlaces(), "asked")
	}
	if id, e := x.Add(1, 30, 6); id != 14 || e != api.OK || x.Len() != 14 {
		t.Error("behind it:", id, e, x.Len())
	}
}

// askAll asks a tree for all that it can be asked, at some places.
func askAll[N comparable](x *Tree[N], places ...N) {
	for id := -1; id < 12; id++ {
		x.Kids(id)
		x.Parent(id)
		x.Place(id)
		x.Fact(id)
		x.Facts(id)
		x.With(id)
		for _, at := range places {
			x.At(at)
			x.Up(id, at)
		}
	}
}

// P15.1: places that can't be compared, and such as aren't like themselves, do no harm: the calls come to an end, and the tokens at other places are what they are.
func TestStrangePlaces(t *testing.T) {
	strange := []any{[]int{1}, map[int]int{}, func() {}, []int(nil), [1]any{[]int{}}, math.NaN(), [2]any{math.NaN(), []int{}}}
	for _, s := range strange {
		askAll(New(s), s, nil, 1)
		x := New[any]("top")
		for parent := 1; parent < 6; parent++ {
			x.Add(parent, s, 3)
			x.Add(parent, parent%2, 4)
		}
		askAll(x, s, nil, 0, 1, "top")
		if l := x.At(1); !slices.Equal(l, []int{3, 7, 11}) {
			t.Errorf("At(1): %v", l)
		}
		if up, ok := x.Up(8, "top"); up != 1 || !ok {
			t.Errorf("Up: %d %v", up, ok)
		}
		l, e := x.Delete(2)
		if want := []int{8, 9, 4, 10, 11, 5, 2}; !slices.Equal(ids(l), want) || e != api.OK || x.Len() != 4 {
			t.Error("Delete:", ids(l), e, x.Len())
		}
		askAll(x, s, nil, 0, 1, "top")
	}
	x := New(math.NaN())
	x.Add(1, 0, 1)
	x.Add(2, math.NaN(), 1)
	askAll(x, 0, math.NaN())
	if l := x.At(0); !slices.Equal(l, []int{2}) {
		t.Error("numbers:", l)
	}
}

// P15.1: of a tree that New didn't make nothing is promised but an end.
func TestWithoutNew(t *testing.T) {
	x := &Tree[int]{}
	askAll(x, 0, 1)
	for id := range 4 {
		x.Add(id, 0, 1)
		x.Delete(id)
		x.Len()
	}
	askAll(x, 0, 1)
}
