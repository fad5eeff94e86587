package link

import (
	"fmt"
	"math"
	"math/rand"
	"testing"
)

// The four links that there are.
var (
	nowhere = Link{}
	left    = Link{Left: true}
	right   = Link{Right: true}
	both    = Link{Left: true, Right: true}
)

// links is all of them.
func links() []Link { return []Link{nowhere, left, right, both} }

// zeros and mores are numbers that count as 0, and numbers of more.
func zeros() []int { return []int{0, -1, -2, -17, math.MinInt + 1, math.MinInt} }
func mores() []int { return []int{1, 2, 3, 17, math.MaxInt - 1, math.MaxInt} }

// numbers is those that count as 0, or those of more.
func numbers(more bool) []int {
	if more {
		return mores()
	}
	return zeros()
}

// sides is both: something is there, or nothing.
func sides() []bool { return []bool{false, true} }

// wantStart wants a link at the beginning.
func wantStart(t *testing.T, items, above int, want Link) {
	t.Helper()
	if got := Start(items, above); got != want {
		t.Errorf("Start(%d, %d) is %+v, want %+v", items, above, got, want)
	}
}

// wantItems wants a link when there are other facts.
func wantItems(t *testing.T, l Link, was, now, above int, want Link) {
	t.Helper()
	if got := Items(l, was, now, above); got != want {
		t.Errorf("Items(%+v, %d, %d, %d) is %+v, want %+v", l, was, now, above, got, want)
	}
}

// wantAbove wants a link when there are other tokens.
func wantAbove(t *testing.T, l Link, was, now, items int, want Link) {
	t.Helper()
	if got := Above(l, was, now, items); got != want {
		t.Errorf("Above(%+v, %d, %d, %d) is %+v, want %+v", l, was, now, items, got, want)
	}
}

// wantFits wants that a link may be, or may not.
func wantFits(t *testing.T, l Link, items, above int, want bool) {
	t.Helper()
	if got := Fits(l, items, above); got != want {
		t.Errorf("Fits(%+v, %d, %d) is %t", l, items, above, got)
	}
}

// P18.1: the chapter's examples: Start(0, 0): left alone; a fact comes: it stays; a token comes: both.
func TestExamples(t *testing.T) {
	wantStart(t, 0, 0, left)
	wantItems(t, left, 0, 1, 0, left)
	wantAbove(t, left, 0, 1, 1, both)
}

// P18.1: at the beginning: no tokens: not linked right; tokens and no facts: not linked left; both: linked both ways.
func TestStart(t *testing.T) {
	wantStart(t, 3, 0, left)
	wantStart(t, 0, 2, right)
	wantStart(t, 1, 1, both)
	wantStart(t, -1, -1, left)
	wantStart(t, 5, -1, left)
	wantStart(t, -1, 5, right)
}

// P18.1: the same, for each pair of numbers below 0, 0 and above it.
func TestStartAll(t *testing.T) {
	for _, c := range []struct {
		items, above bool
		want         Link
	}{
		{false, false, left},
		{true, false, left},
		{false, true, right},
		{true, true, both},
	} {
		for _, items := range numbers(c.items) {
			for _, above := range numbers(c.above) {
				wantStart(t, items, above, c.want)
			}
		}
	}
}

// change is a number that goes from nothing or more to nothing or more; to each link behind it belong two: where nothing is on the other side, and where something is.
type change struct {
	was, now bool
	want     map[Link][2]Link
}

// stays is what belongs to each link where all stay.
func stays() map[Link][2]Link {
	return map[Link][2]Link{nowhere: {nowhere, nowhere}, left: {left, left}, right: {right, right}, both: {both, both}}
}

// wantChanges wants of all numbers, on which ever side of 0, what these changes say.
func wantChanges(t *testing.T, all []change, want func(t *testing.T, l Link, was, now, other int, want Link)) {
	t.Helper()
	n := 0
	for _, c := range all {
		for _, l := range links() {
			for i, other := range sides() {
				n += wantChange(t, c, l, other, c.want[l][i], want)
			}
		}
	}
	if n != 4*4*2*6*6*6 {
		t.Error("only so many:", n)
	}
}

// wantChange wants one of them of all its numbers, and counts these.
func wantChange(t *testing.T, c change, l Link, other bool, to Link, want func(t *testing.T, l Link, was, now, other int, want Link)) int {
	t.Helper()
	n := 0
	for _, was := range numbers(c.was) {
		for _, now := range numbers(c.now) {
			for _, o := range numbers(other) {
				want(t, l, was, now, o, to)
				n++
			}
		}
	}
	return n
}

// P18.1: facts come and go: for each link, each was and now, with and without tokens above; numbers below 0 count as 0 in every place.
func TestItemsAll(t *testing.T) {
	wantChanges(t, []change{
		{false, true, map[Link][2]Link{nowhere: {nowhere, nowhere}, left: {left, left}, right: {left, both}, both: {left, both}}},
		{true, false, map[Link][2]Link{nowhere: {nowhere, nowhere}, left: {left, left}, right: {right, right}, both: {right, right}}},
		{false, false, stays()},
		{true, true, stays()},
	}, wantItems)
}

// P18.1: tokens come and go: for each link, each was and now, with and without facts beside it; numbers below 0 count as 0 in every place.
func TestAboveAll(t *testing.T) {
	wantChanges(t, []change{
		{false, true, map[Link][2]Link{nowhere: {nowhere, nowhere}, left: {right, both}, right: {right, right}, both: {right, both}}},
		{true, false, map[Link][2]Link{nowhere: {nowhere, nowhere}, left: {left, left}, right: {right, right}, both: {left, left}}},
		{false, false, stays()},
		{true, true, stays()},
	}, wantAbove)
}

// P18.1: the first facts beside a node: who is linked right is linked left then, and right only if there are tokens; who isn't linked right stays.
func TestItemsFirst(t *testing.T) {
	wantItems(t, right, 0, 1, 2, both)
	wantItems(t, right, 0, 1, 0, left)
	wantItems(t, right, 0, 1, -1, left)
	wantItems(t, both, 0, 3, 1, both)
	wantItems(t, both, 0, 3, 0, left)
	wantItems(t, left, 0, 1, 0, left)
	wantItems(t, left, 0, 1, 1, left)
	wantItems(t, nowhere, 0, 1, 1, nowhere)
	wantItems(t, right, -2, 1, 2, both)
}

// P18.1: the last facts go: who is linked right isn't linked left then; who isn't stays.
func TestItemsLast(t *testing.T) {
	wantItems(t, both, 1, 0, 2, right)
	wantItems(t, both, 1, 0, 0, right)
	wantItems(t, both, 9, -1, 2, right)
	wantItems(t, right, 1, 0, 2, right)
	wantItems(t, right, 1, 0, 0, right)
	wantItems(t, left, 1, 0, 0, left)
	wantItems(t, left, 1, 0, 2, left)
	wantItems(t, nowhere, 1, 0, 2, nowhere)
}

// P18.1: the first tokens above a node: who is linked left is linked right then, and left only if there are facts; who isn't linked left stays.
func TestAboveFirst(t *testing.T) {
	wantAbove(t, left, 0, 1, 2, both)
	wantAbove(t, left, 0, 1, 0, right)
	wantAbove(t, left, 0, 1, -1, right)
	wantAbove(t, both, 0, 3, 1, both)
	wantAbove(t, both, 0, 3, 0, right)
	wantAbove(t, right, 0, 1, 0, right)
	wantAbove(t, right, 0, 1, 1, right)
	wantAbove(t, nowhere, 0, 1, 1, nowhere)
	wantAbove(t, left, -2, 1, 2, both)
}

// P18.1: the last tokens go: who is linked left isn't linked right then; who isn't stays.
func TestAboveLast(t *testing.T) {
	wantAbove(t, both, 1, 0, 2, left)
	wantAbove(t, both, 1, 0, 0, left)
	wantAbove(t, both, 9, -1, 2, left)
	wantAbove(t, left, 1, 0, 2, left)
	wantAbove(t, left, 1, 0, 0, left)
	wantAbove(t, right, 1, 0, 0, right)
	wantAbove(t, right, 1, 0, 2, right)
	wantAbove(t, nowhere, 1, 0, 2, nowhere)
}

// P18.1: where none becomes none, or some become fewer, as many or more, each link stays, whatever is on the other side.
func TestStays(t *testing.T) {
	for _, l := range links() {
		for _, c := range [][2]int{{0, 0}, {0, -1}, {-1, 0}, {-1, -1}, {-5, -2}, {2, 1}, {1, 1}, {1, 2}, {9, 3}, {3, 9}, {1, math.MaxInt}, {math.MaxInt, 1}} {
			for _, other := range []int{math.MinInt, -1, 0, 1, 2, math.MaxInt} {
				wantItems(t, l, c[0], c[1], other, l)
				wantAbove(t, l, c[0], c[1], other, l)
			}
		}
	}
}

// P18.1: who has nothing beside it may be without the left link, who has nothing above it without the right one, and nobody without both.
func TestFits(t *testing.T) {
	wantFits(t, left, 5, 0, true)
	wantFits(t, left, 5, 1, false)
	wantFits(t, right, 0, 1, true)
	wantFits(t, right, 1, 1, false)
	wantFits(t, nowhere, 0, 0, false)
	wantFits(t, both, 0, 0, true)
	wantFits(t, left, -3, -3, true)
	wantFits(t, right, -3, -3, true)
	wantFits(t, nowhere, -3, -3, false)
}

// P18.1: the same, for each of the four links and each pair of numbers below 0, 0 and above it.
func TestFitsAll(t *testing.T) {
	for _, c := range []struct {
		items, above bool
		want         map[Link]bool
	}{
		{false, false, map[Link]bool{nowhere: false, left: true, right: true, both: true}},
		{true, false, map[Link]bool{nowhere: false, left: true, right: false, both: true}},
		{false, true, map[Link]bool{nowhere: false, left: false, right: true, both: true}},
		{true, true, map[Link]bool{nowhere: false, left: false, right: false, both: true}},
	} {
		for _, items := range numbers(c.items) {
			for _, above := range numbers(c.above) {
				for _, l := range links() {
					wantFits(t, l, items, above, c.want[l])
				}
			}
		}
	}
}

// node is a node that is linked, what is beside it and above it, and how it came to that.
type node struct {
	link         Link
	items, above int
	row          string
}

// made is a node at its beginning.
func made(items, above int) node {
	return node{Start(items, above), items, above, fmt.Sprint("made with ", items, " and ", above)}
}

// withItems is a node to whose side other facts have come, or gone from there.
func (n node) withItems(now int) node {
	return node{Items(n.link, n.items, now, n.above), now, n.above, fmt.Sprint(n.row, ", items ", now)}
}

// withAbove is a node above which other tokens are.
func (n node) withAbove(now int) node {
	return node{Above(n.link, n.above, now, n.items), n.items, now, fmt.Sprint(n.row, ", above ", now)}
}

// wantRight wants that a node is linked as P18.2 says: by Fits, and by its words, without any function of the layer.
func (n node) wantRight(t *testing.T) {
	t.Helper()
	if !Fits(n.link, n.items, n.above) {
		t.Fatalf("%s: %+v doesn't fit", n.row, n.link)
	}
	if !n.link.Left && n.items > 0 {
		t.Fatalf("%s: it isn't linked left, and would have something to do", n.row)
	}
	if !n.link.Right && n.above > 0 {
		t.Fatalf("%s: it isn't linked right, and would have something to do", n.row)
	}
	if !n.link.Left && !n.link.Right {
		t.Fatalf("%s: it is linked nowhere", n.row)
	}
	if n.items > 0 && n.above > 0 && n.link != both {
		t.Fatalf("%s: it isn't linked both ways", n.row)
	}
}

// wantRows wants that a node is right behind each row of so many changes more, among small numbers, and counts the rows.
func (n node) wantRows(t *testing.T, more int) int {
	t.Helper()
	n.wantRight(t)
	rows := 1
	if more == 0 {
		return rows
	}
	for now := -1; now <= 2; now++ {
		rows += n.withItems(now).wantRows(t, more-1)
		rows += n.withAbove(now).wantRows(t, more-1)
	}
	return rows
}

// P18.2: all rows of up to four changes among small numbers, from each beginning.
func TestAllRows(t *testing.T) {
	for items := -1; items <= 2; items++ {
		for above := -1; above <= 2; above++ {
			if rows := made(items, above).wantRows(t, 4); rows != 1+8+64+512+4096 {
				t.Error("only so many rows:", rows)
			}
		}
	}
}

// anyNumber is a number by chance: mostly near 0, sometimes far from it.
func anyNumber(r *rand.Rand) int {
	switch r.Intn(8) {
	case 0:
		return int(r.Uint64())
	case 1:
		return []int{math.MinInt, math.MinInt + 1, math.MaxInt - 1, math.MaxInt}[r.Intn(4)]
	case 2, 3:
		return r.Intn(40) - 20
	}
	return r.Intn(4) - 1
}

// P18.2: rows of changes by chance, of either number to any other.
func TestRandomRows(t *testing.T) {
	for seed := range int64(300) {
		r := rand.New(rand.NewSource(seed))
		n := made(anyNumber(r), anyNumber(r))
		n.wantRight(t)
		for range 100 {
			if r.Intn(2) == 0 {
				n = n.withItems(anyNumber(r))
			} else {
				n = n.withAbove(anyNumber(r))
			}
			n.wantRight(t)
		}
	}
}

// P18.2: rows by chance in which facts and tokens come and go one by one, as a net has them.
func TestRandomSteps(t *testing.T) {
	for seed := range int64(300) {
		r := rand.New(rand.NewSource(seed))
		n := made(r.Intn(3), r.Intn(3))
		for range 200 {
			by := 2*r.Intn(2) - 1
			if r.Intn(2) == 0 {
				n = n.withItems(max(0, n.items+by))
			} else {
				n = n.withAbove(max(0, n.above+by))
			}
			n.wantRight(t)
		}
	}
}

// P18.2: from any link that fits on, and not from the beginning alone, one change of either number leaves one that fits.
func TestFitsFurther(t *testing.T) {
	all := append(zeros(), mores()...)
	for _, l := range links() {
		for _, items := range all {
			for _, above := range all {
				if !Fits(l, items, above) {
					continue
				}
				n := node{l, items, above, fmt.Sprintf("%+v with %d and %d", l, items, above)}
				n.wantRight(t)
				for _, now := range all {
					n.withItems(now).wantRight(t)
					n.withAbove(now).wantRight(t)
				}
			}
		}
	}
}
