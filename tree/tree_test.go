package tree_test

import (
	"errors"
	"math"
	"slices"
	"testing"

	"trawl/api"
	"trawl/tree"
)

// fails holds an error against the one it has to be: that one, and no other, without a place or a number.
func fails(t *testing.T, name string, got, want error) {
	t.Helper()
	for _, err := range []error{api.ErrTree, api.ErrDeep, api.ErrTooBig} {
		if errors.Is(got, err) != (err == want) {
			t.Errorf("%s: Check = %v, want %v", name, got, want)
		}
	}
	var fault *api.Fault
	var listed *api.Listed
	if errors.As(got, &fault) || errors.As(got, &listed) {
		t.Errorf("%s: the error tells a place or a number", name)
	}
	if want == nil && got != nil {
		t.Errorf("%s: Check = %v, want nil", name, got)
	}
}

type sample struct {
	name string
	tree api.Node
}

// right are trees at the edges of what is in form, all of them right.
func right() []sample {
	a := leaf('a')
	full := api.Node{Kind: api.KindBytes, Set: api.Set{math.MaxUint64, math.MaxUint64, math.MaxUint64, math.MaxUint64}}
	return []sample{
		{"Empty", node(api.KindEmpty)},
		{"Begin", node(api.KindBegin)},
		{"End", node(api.KindEnd)},
		{"no list and an empty one", api.Node{Kind: api.KindEmpty, Subs: []api.Node{}}},
		{"spare room behind no Sub", api.Node{Kind: api.KindEnd, Subs: make([]api.Node, 0, 3)}},
		{"nothing", node(api.KindBytes)},
		{"a byte", a},
		{"all bytes", full},
		{"Seq of two", node(api.KindSeq, a, a)},
		{"Seq of three", node(api.KindSeq, a, a, a)},
		{"Seq in Seq", node(api.KindSeq, a, node(api.KindSeq, a, node(api.KindEmpty)))},
		{"Alt of two", node(api.KindAlt, a, a)},
		{"Alt in Alt", node(api.KindAlt, node(api.KindAlt, a, a), a)},
		{"Group 1", group(1, a)},
		{"Group 999", group(999, a)},
		{"groups of one number", node(api.KindSeq, group(3, group(3, a)), group(3, a))},
		{"0 to 0", rep(a, 0, 0)},
		{"0 to 1", rep(a, 0, 1)},
		{"1 to 1", rep(a, 1, 1)},
		{"0 without end", rep(a, 0, -1)},
		{"255 without end", rep(a, 255, -1)},
		{"0 to 255", rep(a, 0, 255)},
		{"255 to 255", rep(a, 255, 255)},
		{"bare 0 to 0", bare(a, 0)},
		{"bare 0 to 1", bare(a, 1)},
		{"bare 0 to 255", bare(a, 255)},
		{"bare 0 without end", bare(a, -1)},
		{"a repeat of a repeat", rep(bare(rep(a, 2, 3), 1), 1, -1)},
	}
}

func TestP4_1CheckOfRightTrees(t *testing.T) {
	for _, s := range right() {
		fails(t, s.name, tree.Check(s.tree), nil)
		fails(t, "a group of "+s.name, tree.Check(group(5, s.tree)), nil)
	}
}

// wrong are trees that aren't in form, each for one reason.
func wrong() []sample {
	a := leaf('a')
	list := []sample{
		{"the zero Node", api.Node{}},
		{"kind 9", node(9)},
		{"kind -1", node(-1)},
		{"kind 2^32 + 1", node(1<<32 + api.KindEmpty)},
		{"kind 0 of two", node(0, a, a)},
		{"kind 9 of one", node(9, a)},
		{"Seq of none", node(api.KindSeq)},
		{"Seq of one", node(api.KindSeq, a)},
		{"Alt of none", node(api.KindAlt)},
		{"Alt of one", node(api.KindAlt, a)},
		{"Group of none", api.Node{Kind: api.KindGroup, Num: 1}},
		{"Group of two", api.Node{Kind: api.KindGroup, Num: 1, Subs: []api.Node{a, a}}},
		{"Group 0", group(0, a)},
		{"Group -1", group(-1, a)},
		{"Group 1000", group(1000, a)},
		{"Group 2^32 + 1", group(1<<32+1, a)},
		{"Rep of none", api.Node{Kind: api.KindRep, Max: 1}},
		{"Rep 0 to 0 of none", node(api.KindRep)},
		{"Rep of two", api.Node{Kind: api.KindRep, Max: 1, Subs: []api.Node{a, a}}},
		{"-1 to 1", rep(a, -1, 1)},
		{"-1 without end", rep(a, -1, -1)},
		{"256 to 256", rep(a, 256, 256)},
		{"256 without end", rep(a, 256, -1)},
		{"0 to 256", rep(a, 0, 256)},
		{"2 to 1", rep(a, 2, 1)},
		{"1 to 0", rep(a, 1, 0)},
		{"0 to -2", rep(a, 0, -2)},
		{"-3 to -2", rep(a, -3, -2)},
		{"the greatest numbers", rep(a, math.MaxInt, math.MaxInt)},
		{"the least numbers", rep(a, math.MinInt, math.MinInt)},
	}
	for _, counts := range [][2]int{{1, 1}, {1, 2}, {1, -1}, {255, 255}} {
		t := rep(a, counts[0], counts[1])
		t.Bare = true
		list = append(list, sample{"bare, Min above 0", t})
	}
	return append(list, misplaced()...)
}

// misplaced are trees with a field that isn't named for their kind.
func misplaced() []sample {
	a := leaf('a')
	var list []sample
	spoil := func(name string, t api.Node, change func(*api.Node)) {
		change(&t)
		list = append(list, sample{name, t})
	}
	for _, kind := range []api.Node{node(api.KindEmpty), node(api.KindBegin), node(api.KindEnd), a, node(api.KindSeq, a, a), node(api.KindAlt, a, a), group(1, a), rep(a, 0, 1)} {
		if kind.Kind != api.KindBytes {
			for word := range 4 {
				spoil("a Set", kind, func(t *api.Node) { t.Set[word] = 1 << 63 })
			}
		}
		if kind.Kind != api.KindGroup {
			spoil("a Num", kind, func(t *api.Node) { t.Num = 1 })
			spoil("a Num below 0", kind, func(t *api.Node) { t.Num = -1 })
		}
		if kind.Kind != api.KindRep {
			spoil("a Min", kind, func(t *api.Node) { t.Min = 1 })
			spoil("a Max", kind, func(t *api.Node) { t.Max = 1 })
			spoil("a Max without end", kind, func(t *api.Node) { t.Max = -1 })
			spoil("bare", kind, func(t *api.Node) { t.Bare = true })
		}
		if len(kind.Subs) == 0 {
			spoil("a Sub", kind, func(t *api.Node) { t.Subs = []api.Node{a} })
			spoil("two Subs", kind, func(t *api.Node) { t.Subs = []api.Node{a, a} })
		}
	}
	return list
}

func TestP4_1CheckOfTreesNotInForm(t *testing.T) {
	a := leaf('a')
	for _, s := range wrong() {
		x := s.tree
		fails(t, s.name, tree.Check(x), api.ErrTree)
		for _, around := range []api.Node{group(1, x), node(api.KindSeq, x, a), node(api.KindSeq, a, a, x), node(api.KindAlt, a, x, a), rep(x, 0, -1), rep(x, 0, 0), group(7, rep(node(api.KindAlt, a, x), 0, 0))} {
			fails(t, "within a tree, "+s.name, tree.Check(around), api.ErrTree)
		}
	}
}

func TestP4_1CheckOfDepth(t *testing.T) {
	a := leaf('a')
	fails(t, "a depth of 200", tree.Check(nest(199, a)), nil)
	fails(t, "a depth of 201", tree.Check(nest(200, a)), api.ErrDeep)
	fails(t, "200 beside a leaf", tree.Check(node(api.KindAlt, nest(198, a), a)), nil)
	fails(t, "201 beside a leaf", tree.Check(node(api.KindSeq, a, nest(199, a))), api.ErrDeep)
	fails(t, "200 by a star", tree.Check(rep(nest(198, a), 0, -1)), nil)
	fails(t, "201 by a count", tree.Check(rep(nest(198, a), 2, 2)), api.ErrDeep)
	fails(t, "201 by 1 to 1", tree.Check(rep(nest(198, a), 1, 1)), api.ErrDeep)
	fails(t, "201 by 0 to 0", tree.Check(rep(nest(198, a), 0, 0)), api.ErrDeep)
	fails(t, "200 by 0 to 0", tree.Check(rep(nest(197, a), 0, 0)), nil)
}

func TestP4_1CheckOfSize(t *testing.T) {
	a := leaf('a')
	for _, c := range []struct {
		t    api.Node
		want error
	}{
		{row(1999), nil},
		{row(2000), api.ErrTooBig},
		{row(9999), api.ErrTooBig},
		{group(1, row(1998)), nil},
		{group(1, row(1999)), api.ErrTooBig},
		{rep(row(1998), 0, 1), nil},
		{rep(row(1999), 0, 1), api.ErrTooBig},
		{rep(row(1999), 1, 1), nil},
		{rep(row(2000), 1, 1), api.ErrTooBig},
		{rep(row(998), 1, -1), nil},
		{rep(row(999), 1, -1), api.ErrTooBig},
		{rep(row(7), 250, 250), api.ErrTooBig},
		{rep(row(7), 249, 249), nil},
		{rep(row(4999), 0, 0), nil},
		{bare(row(4999), 0), nil},
		{node(api.KindSeq, rep(row(4999), 0, 0), a), nil},
		{rep(rep(a, 255, 255), 8, 8), api.ErrTooBig},
		{rep(rep(a, 255, 255), 7, 7), nil},
	} {
		fails(t, "by size", tree.Check(c.t), c.want)
	}
}

func TestP4_1CheckTellsTheFirstError(t *testing.T) {
	for _, s := range wrong() {
		x := s.tree
		fails(t, "too deep, "+s.name, tree.Check(nest(300, x)), api.ErrTree)
		fails(t, "too big, "+s.name, tree.Check(node(api.KindSeq, row(2500), x)), api.ErrTree)
		fails(t, "too deep and too big, "+s.name, tree.Check(node(api.KindAlt, nest(300, row(2500)), x)), api.ErrTree)
	}
	fails(t, "too deep and too big", tree.Check(nest(200, row(2500))), api.ErrDeep)
	fails(t, "too big beside too deep", tree.Check(node(api.KindSeq, row(2500), nest(200, leaf('a')))), api.ErrDeep)
}

func TestP4_1SizeAgainstTheExpansion(t *testing.T) {
	for _, x := range forms() {
		e := expansion(x)
		if want := min(len(all(&e)), 2001); tree.Size(x) != want {
			t.Errorf("Size = %d, want %d, of %+v", tree.Size(x), want, x)
		}
	}
}

func TestP4_1SizeOfAllCounts(t *testing.T) {
	for _, sub := range []api.Node{leaf('a'), row(2), rep(leaf('a'), 0, 1)} {
		n := len(all(&sub))
		for least := range 256 {
			for most := -1; most <= 255; most++ {
				if most != -1 && most < least {
					continue
				}
				want := least*n + (most-least)*(1+n) + 1
				switch {
				case most == 0:
					want = 1
				case least == 1 && most == 1:
					want = n
				case least == 0 && most == 1:
					want = 1 + n
				case most == -1:
					want = least*n + 1 + n
					if least > 0 {
						want++
					}
				}
				x := rep(sub, least, most)
				if got := tree.Size(x); got != min(want, 2001) {
					t.Fatalf("Size of %d to %d of %d nodes = %d, want %d", least, most, n, got, want)
				}
				x.Bare = least == 0
				if got := tree.Size(x); got != min(want, 2001) {
					t.Fatalf("Size of a bare %d to %d of %d nodes = %d, want %d", least, most, n, got, want)
				}
			}
		}
	}
}

func TestP4_1SizeAtItsBound(t *testing.T) {
	a := leaf('a')
	huge := a
	for range 99 {
		huge = rep(huge, 255, 255)
	}
	for _, c := range []struct {
		name string
		t    api.Node
		want int
	}{
		{"a row of 1998", row(1998), 1999},
		{"a row of 1999", row(1999), 2000},
		{"a row of 2000", row(2000), 2001},
		{"a row of 2001", row(2001), 2001},
		{"a row of 10000", row(10000), 2001},
		{"1 to 1 of a row of 2001", rep(row(2001), 1, 1), 2001},
		{"0 to 0 of a row of 2001", rep(row(2001), 0, 0), 1},
		{"2 + 2 * 999", rep(row(998), 1, -1), 2000},
		{"1 + 2 * 1000", rep(row(999), 2, 2), 2001},
		{"255 in one another", huge, 2001},
		{"0 to 0 of these", rep(huge, 0, 0), 1},
		{"two of these", node(api.KindSeq, huge, huge), 2001},
		{"0 to 255 in one another", rep(rep(rep(rep(a, 0, 255), 0, 255), 0, 255), 0, 255), 2001},
	} {
		if got := tree.Size(c.t); got != c.want {
			t.Errorf("Size of %s = %d, want %d", c.name, got, c.want)
		}
	}
	fails(t, "255 in one another", tree.Check(huge), api.ErrTooBig)
}

func TestP4_1SizeOfTreesNotInForm(t *testing.T) {
	a := leaf('a')
	for _, s := range wrong() {
		x := s.tree
		for _, x := range []api.Node{x, group(1, x), node(api.KindSeq, a, x), node(api.KindAlt, row(2500), x), rep(x, 0, 0), nest(300, x)} {
			if got := tree.Size(x); got != 0 {
				t.Errorf("Size = %d, %s", got, s.name)
			}
		}
	}
}

// deep is the document's rule of the depth, by all nodes of the tree.
func deep(x api.Node) int {
	if len(x.Subs) == 0 {
		return 1
	}
	var below []int
	for _, sub := range x.Subs {
		below = append(below, deep(sub))
	}
	more := 1
	if x.Kind == api.KindRep {
		switch [2]int{x.Min, x.Max} {
		case [2]int{0, 1}, [2]int{0, -1}:
		default:
			more = 2
		}
	}
	return slices.Max(below) + more
}

func TestP4_1Depth(t *testing.T) {
	a := leaf('a')
	for _, c := range []struct {
		t    api.Node
		want int
	}{
		{a, 1}, {api.Node{}, 1}, {node(api.KindRep), 1}, {node(api.KindSeq), 1},
		{row(2), 2}, {node(api.KindAlt, a, row(2), a), 3}, {node(api.KindAlt, row(2), a), 3}, {group(1, a), 2},
		{rep(a, 0, 1), 2}, {rep(a, 0, -1), 2}, {bare(a, 1), 2}, {bare(a, -1), 2},
		{rep(a, 0, 0), 3}, {rep(a, 1, 1), 3}, {rep(a, 1, -1), 3}, {rep(a, 0, 2), 3}, {bare(a, 2), 3}, {rep(a, 2, 2), 3}, {rep(a, 2, 3), 3},
		{rep(a, 5, 1), 3}, {rep(a, -1, -1), 3}, {rep(a, 0, -2), 3}, {rep(a, math.MinInt, math.MaxInt), 3},
		{rep(rep(rep(a, 2, 2), 0, 1), 3, -1), 6},
		{node(9, a), 2}, {node(api.KindEmpty, group(0, a), a), 3}, {node(api.KindRep, a, row(2)), 4},
		{api.Node{Kind: api.KindGroup, Min: 2, Max: 2, Subs: []api.Node{a}}, 2},
		{nest(500, a), 501},
	} {
		if got := tree.Depth(c.t); got != c.want {
			t.Errorf("Depth = %d, want %d, of %+v", got, c.want, c.t)
		}
	}
	for _, x := range sorts() {
		if got, want := tree.Depth(x), deep(x); got != want {
			t.Errorf("Depth = %d, want %d, of %+v", got, want, x)
		}
	}
}

func TestP4_1Groups(t *testing.T) {
	a := leaf('a')
	for _, c := range []struct {
		t    api.Node
		want int
	}{
		{a, 0}, {api.Node{}, 0}, {row(3), 0}, {group(1, a), 1}, {group(999, a), 999},
		{group(0, a), 0}, {group(-3, a), 0}, {group(math.MinInt, group(2, a)), 2}, {group(math.MaxInt, a), math.MaxInt},
		{node(api.KindAlt, group(7, a), group(3, a)), 7}, {node(api.KindSeq, group(3, a), group(7, a)), 7},
		{group(2, group(9, a)), 9}, {group(9, group(2, a)), 9},
		{rep(group(4, a), 0, 0), 4}, {rep(group(4, a), 9, 1), 4},
		{api.Node{Kind: api.KindSeq, Num: 8, Subs: []api.Node{a, group(5, a)}}, 5}, {api.Node{Kind: api.KindBytes, Num: 8}, 0},
		{api.Node{Kind: api.KindGroup, Num: 6}, 6}, {node(api.KindEmpty, a, group(12, a)), 12}, {node(0, group(11, a)), 11},
	} {
		if got := tree.Groups(c.t); got != c.want {
			t.Errorf("Groups = %d, want %d, of %+v", got, c.want, c.t)
		}
	}
	for _, x := range sorts() {
		want := 0
		for _, n := range all(&x) {
			if n.Kind == api.KindGroup {
				want = max(want, n.Num)
			}
		}
		if got := tree.Groups(x); got != want {
			t.Errorf("Groups = %d, want %d, of %+v", got, want, x)
		}
	}
}

func TestP4_1SameOfTheSame(t *testing.T) {
	for _, x := range sorts() {
		if !tree.Same(x, x) || !tree.Same(x, clone(x)) {
			t.Errorf("not the same as itself: %+v", x)
		}
	}
	roomy := api.Node{Kind: api.KindEnd, Subs: make([]api.Node, 0, 3)}
	if !tree.Same(node(api.KindEnd), roomy) || !tree.Same(roomy, node(api.KindEnd)) {
		t.Error("an empty list isn't the same as none")
	}
}

func TestP4_1SameOfOthers(t *testing.T) {
	for _, x := range sorts() {
		if len(all(&x)) > 12 {
			continue
		}
		for _, y := range spoiled(x) {
			if tree.Same(x, y) || tree.Same(y, x) {
				t.Fatalf("the same: %+v and %+v", x, y)
			}
		}
	}
	a, b := leaf('a'), leaf('b')
	if tree.Same(node(api.KindSeq, a, b), node(api.KindSeq, b, a)) || tree.Same(node(api.KindAlt, a, a), node(api.KindAlt, a, b)) {
		t.Error("the order of Subs doesn't count")
	}
}

func TestP4_1SameOfEachTwo(t *testing.T) {
	list := sorts()
	for _, x := range list {
		for _, y := range list {
			if got, want := tree.Same(x, y), alike(x, y); got != want {
				t.Fatalf("Same = %v, want %v: %+v and %+v", got, want, x, y)
			}
		}
	}
}

// ownMemory holds that no two lists of an answer, and none of it and of what was handed in, share memory.
func ownMemory(t *testing.T, name string, answer api.Node, handed ...[]api.Node) {
	t.Helper()
	other := slots(handed...)
	for at, n := range slots(answer.Subs) {
		if n > 1 {
			t.Fatalf("%s: two lists of the answer share memory", name)
		}
		if other[at] > 0 {
			t.Fatalf("%s: the answer shares memory with what was handed in", name)
		}
	}
}

func TestP4_1Copy(t *testing.T) {
	for _, x := range sorts() {
		before := clone(x)
		got := tree.Copy(x)
		if !alike(got, before) || !alike(x, before) {
			t.Fatalf("Copy of %+v = %+v", before, got)
		}
		ownMemory(t, "Copy", got, x.Subs)
		ownMemory(t, "a second Copy", tree.Copy(x), x.Subs, got.Subs)
		for _, n := range all(&got) {
			n.Kind, n.Num = 77, 77
		}
		if !alike(x, before) {
			t.Fatalf("changing the copy of %+v changed it", before)
		}
	}
}

func TestP4_1CopyOfListsThatShare(t *testing.T) {
	shared := []api.Node{leaf('a'), leaf('b'), leaf('c')}
	x := node(api.KindAlt, node(api.KindSeq, shared...), node(api.KindSeq, shared[:2]...), api.Node{Kind: api.KindEmpty, Subs: shared[:0]})
	before := clone(x)
	got := tree.Copy(x)
	if !alike(got, before) {
		t.Errorf("Copy = %+v", got)
	}
	ownMemory(t, "Copy", got, x.Subs)
	_ = append(got.Subs[1].Subs, leaf('z'))
	_ = append(got.Subs[2].Subs, leaf('z'))
	if !alike(got, before) || !alike(x, before) {
		t.Error("what is laid behind one list is seen in another one")
	}
}

func TestP4_1Bytes(t *testing.T) {
	for _, s := range []api.Set{{}, {1}, {0, 2}, {0, 0, 4}, {0, 0, 0, 1 << 63}, {math.MaxUint64, math.MaxUint64, math.MaxUint64, math.MaxUint64}} {
		if got := tree.Bytes(s); !alike(got, api.Node{Kind: api.KindBytes, Set: s}) {
			t.Errorf("Bytes(%v) = %+v", s, got)
		}
	}
}

func TestP4_1Text(t *testing.T) {
	if got := tree.Text(""); !alike(got, node(api.KindEmpty)) {
		t.Errorf("Text of nothing = %+v", got)
	}
	for b := range 256 {
		if got := tree.Text(string([]byte{byte(b)})); !alike(got, leaf(byte(b))) {
			t.Errorf("Text of the byte %d = %+v", b, got)
		}
	}
	var whole []byte
	want := node(api.KindSeq)
	for i := range 700 {
		whole = append(whole, byte(i*7))
		want.Subs = append(want.Subs, leaf(byte(i*7)))
	}
	for _, n := range []int{2, 3, 64, 256, 700} {
		part := want
		part.Subs = want.Subs[:n]
		got := tree.Text(string(whole[:n]))
		if !alike(got, part) {
			t.Errorf("Text of %d bytes", n)
		}
		ownMemory(t, "Text", got)
	}
	if got := tree.Text("é\n"); !alike(got, node(api.KindSeq, leaf(0xc3), leaf(0xa9), leaf('\n'))) {
		t.Errorf("Text of bytes above 127 = %+v", got)
	}
}

func TestP4_1SeqAndAlt(t *testing.T) {
	kinds := []struct {
		call func(...api.Node) api.Node
		kind int
		none api.Node
	}{
		{tree.Seq, api.KindSeq, node(api.KindEmpty)},
		{tree.Alt, api.KindAlt, node(api.KindBytes)},
	}
	trees := sorts()
	for _, k := range kinds {
		if got := k.call(); !alike(got, k.none) {
			t.Errorf("kind %d of none = %+v", k.kind, got)
		}
		for at, x := range trees {
			if got := k.call(x); !alike(got, x) {
				t.Fatalf("kind %d of one: %+v", k.kind, got)
			}
			ownMemory(t, "of one", k.call(x), x.Subs)
			for n := 2; n <= 4 && at+n <= len(trees); n++ {
				list := slices.Clone(trees[at : at+n])
				got := k.call(list...)
				if !alike(got, node(k.kind, trees[at:at+n]...)) {
					t.Fatalf("kind %d of %d: %+v", k.kind, n, got)
				}
				ownMemory(t, "of some", got, list)
			}
			twice := k.call(x, x)
			if !alike(twice, node(k.kind, x, x)) {
				t.Fatalf("kind %d of one twice: %+v", k.kind, twice)
			}
			ownMemory(t, "of one twice", twice, x.Subs)
		}
	}
}

func TestP4_1SeqAndAltLeaveTheirArguments(t *testing.T) {
	for _, call := range []func(...api.Node) api.Node{tree.Seq, tree.Alt} {
		room := []api.Node{row(2), leaf('a'), group(3, row(4)), leaf('z')}
		before := clone(node(0, room...))
		for n := range len(room) {
			got := call(room[:n]...)
			for _, x := range all(&got) {
				x.Kind = 99
			}
			_ = append(got.Subs, leaf('q'))
		}
		if !alike(node(0, room...), before) {
			t.Errorf("the trees became %+v", room)
		}
	}
}

func TestP4_1Group(t *testing.T) {
	for _, x := range sorts() {
		before := clone(x)
		for _, num := range []int{1, 2, 999, 0, -1, 1000, math.MaxInt, math.MinInt} {
			got := tree.Group(num, x)
			if !alike(got, group(num, before)) {
				t.Fatalf("Group(%d) = %+v", num, got)
			}
			ownMemory(t, "Group", got, x.Subs)
		}
		if !alike(x, before) {
			t.Fatalf("Group changed %+v", before)
		}
	}
}

func TestP4_1Rep(t *testing.T) {
	numbers := []int{0, 1, -1, 2, 255, 256, -2, math.MaxInt, math.MinInt}
	for _, x := range sorts() {
		before := clone(x)
		for _, least := range numbers {
			for _, most := range numbers {
				if got := tree.Rep(x, least, most); !alike(got, rep(before, least, most)) {
					t.Fatalf("Rep(%d, %d) = %+v", least, most, got)
				}
			}
		}
		ownMemory(t, "Rep", tree.Rep(x, 2, 3), x.Subs)
		if !alike(x, before) {
			t.Fatalf("Rep changed %+v", before)
		}
	}
}

func TestP4_1WhatIsAskedIsNotChanged(t *testing.T) {
	for _, x := range sorts() {
		before := clone(x)
		tree.Check(x)
		tree.Size(x)
		tree.Depth(x)
		tree.Groups(x)
		tree.Same(x, before)
		if !alike(x, before) {
			t.Fatalf("%+v became %+v", before, x)
		}
	}
}

func TestP4_1ManyNodesInOneAnother(t *testing.T) {
	// The document lets 2^16 parts stand in one another.
	const most = 1 << 16
	for _, c := range []struct {
		bottom api.Node
		size   int
		err    error
	}{{leaf('a'), 2001, api.ErrDeep}, {api.Node{}, 0, api.ErrTree}} {
		x := nest(most-1, c.bottom)
		fails(t, "nested", tree.Check(x), c.err)
		if tree.Size(x) != c.size || tree.Depth(x) != most || tree.Groups(x) != 1 {
			t.Errorf("Size %d, Depth %d, Groups %d", tree.Size(x), tree.Depth(x), tree.Groups(x))
		}
		if !tree.Same(tree.Copy(x), x) || tree.Same(x, nest(most-2, c.bottom)) {
			t.Error("Same, Copy")
		}
	}
}

func TestP4_1Examples(t *testing.T) {
	a := tree.Text("a")
	for _, c := range []struct {
		t    api.Node
		want int
	}{
		{tree.Rep(tree.Text("ab"), 2, 4), 15},
		{tree.Rep(a, 0, -1), 2},
		{tree.Rep(a, 3, -1), 6},
		{tree.Rep(tree.Rep(a, 255, 255), 8, 8), 2001},
	} {
		if got := tree.Size(c.t); got != c.want {
			t.Errorf("Size = %d, want %d", got, c.want)
		}
	}
	fails(t, "8 times 255 times", tree.Check(tree.Rep(tree.Rep(a, 255, 255), 8, 8)), api.ErrTooBig)
	if !alike(tree.Text(""), node(api.KindEmpty)) || !alike(a, leaf('a')) || !alike(tree.Alt(), node(api.KindBytes)) {
		t.Error("Text, Alt")
	}
	for _, x := range []api.Node{tree.Group(0, a), tree.Rep(a, 2, 1), {}} {
		fails(t, "an example", tree.Check(x), api.ErrTree)
	}
	if tree.Depth(tree.Rep(a, 0, -1)) != 2 || tree.Depth(tree.Rep(a, 2, 3)) != 3 {
		t.Error("Depth")
	}
}

func TestP4_2SubsOfRightTrees(t *testing.T) {
	list := forms()
	for _, s := range right() {
		list = append(list, s.tree)
	}
	for _, x := range append(list, nest(199, leaf('a')), row(1999), rep(rep(leaf('a'), 255, 255), 7, 7)) {
		if tree.Check(x) != nil || x.Kind == api.KindRep && x.Max == 0 {
			continue
		}
		for _, sub := range x.Subs {
			fails(t, "a Sub", tree.Check(sub), nil)
		}
	}
	unlike := tree.Rep(tree.Rep(tree.Text("ab"), 255, 255), 0, 0)
	fails(t, "0 to 0 of a great tree", tree.Check(unlike), nil)
	fails(t, "the great tree", tree.Check(unlike.Subs[0]), nil)
	unlike = tree.Rep(tree.Rep(tree.Text("abcdefgh"), 255, 255), 0, 0)
	fails(t, "0 to 0 of one too great", tree.Check(unlike), nil)
	fails(t, "the one too great", tree.Check(unlike.Subs[0]), api.ErrTooBig)
}

func TestP4_2SizesWithoutARepeat(t *testing.T) {
	tried := 0
	for _, x := range forms() {
		nodes := all(&x)
		if slices.ContainsFunc(nodes, func(n *api.Node) bool { return n.Kind == api.KindRep }) {
			continue
		}
		tried++
		if tree.Size(x) != len(nodes) {
			t.Errorf("Size = %d, of %d nodes", tree.Size(x), len(nodes))
		}
	}
	if tried < 50 {
		t.Errorf("only %d trees without a repeat", tried)
	}
}

func TestP4_2SizesOfTwo(t *testing.T) {
	list := forms()
	for at, x := range list[1:] {
		y := list[at]
		n, m := tree.Size(x), tree.Size(y)
		if tree.Size(tree.Seq(x, y)) != min(n+m+1, 2001) || tree.Size(tree.Alt(x, y)) != min(n+m+1, 2001) {
			t.Errorf("Size of two of %d and %d: Seq %d, Alt %d", n, m, tree.Size(tree.Seq(x, y)), tree.Size(tree.Alt(x, y)))
		}
		if tree.Size(tree.Group(4, x)) != min(n+1, 2001) {
			t.Errorf("Size of a group of %d: %d", n, tree.Size(tree.Group(4, x)))
		}
	}
}
