package expand_test

import (
	"errors"
	"math"
	"math/rand"
	"slices"
	"testing"

	"trawl/api"
	"trawl/expand"
	"trawl/parses"
	"trawl/rank"
	"trawl/reach"
	"trawl/scene"
	"trawl/tree"
)

// fails holds both calls for a tree that isn't right: the error has to be this one, and no other, without a place or a number; the tree beside it zero.
func fails(t *testing.T, name string, n api.Node, want error) {
	t.Helper()
	x, err := expand.Expand(n)
	for _, other := range []error{api.ErrTree, api.ErrDeep, api.ErrTooBig, api.ErrArgument} {
		if errors.Is(err, other) != (other == want) {
			t.Errorf("%s: Expand fails with %v, want %v", name, err, want)
		}
	}
	var fault *api.Fault
	var listed *api.Listed
	if errors.As(err, &fault) || errors.As(err, &listed) {
		t.Errorf("%s: the error tells a place or a number", name)
	}
	if told(x) != "kind0" {
		t.Errorf("%s: Expand answers %s beside an error", name, told(x))
	}
	if expand.Plain(n) {
		t.Errorf("%s: Plain", name)
	}
}

// expansion answers what Expand does of a right tree.
func expansion(t *testing.T, n api.Node) api.Node {
	t.Helper()
	x, err := expand.Expand(n)
	if err != nil {
		t.Fatalf("Expand of %s: %v", told(n), err)
	}
	return x
}

func TestP14_1ExpandByHand(t *testing.T) {
	a, b := leaf('a'), leaf('b')
	for _, c := range []struct {
		t    api.Node
		want string
	}{
		{node(api.KindEmpty), "E"},
		{node(api.KindBegin), "^"},
		{node(api.KindEnd), "$"},
		{node(api.KindBytes), "S0.0.0.0."},
		{a, "a"},
		{seq(a, b, a), "seq(a b a)"},
		{alt(b, a), "alt(b a)"},
		{group(999, a), "g999(a)"},
		{rep(a, 0, 0), "E"},
		{bare(a, 0), "E"},
		{rep(a, 1, 1), "a"},
		{rep(a, 0, 1), "r0,1(a)"},
		{bare(a, 1), "b0,1(a)"},
		{rep(a, 0, -1), "r0,-1(a)"},
		{bare(a, -1), "b0,-1(a)"},
		{rep(a, 2, 2), "seq(a a)"},
		{rep(a, 3, 3), "seq(a a a)"},
		{rep(a, 1, -1), "seq(a b0,-1(a))"},
		{rep(a, 2, -1), "seq(a a b0,-1(a))"},
		{rep(a, 0, 2), "seq(r0,1(a) b0,1(a))"},
		{rep(a, 0, 3), "seq(r0,1(a) b0,1(a) b0,1(a))"},
		{bare(a, 2), "seq(b0,1(a) b0,1(a))"},
		{bare(a, 3), "seq(b0,1(a) b0,1(a) b0,1(a))"},
		{rep(a, 1, 2), "seq(a b0,1(a))"},
		{rep(a, 1, 3), "seq(a b0,1(a) b0,1(a))"},
		{rep(a, 2, 3), "seq(a a b0,1(a))"},
		{rep(node(api.KindEmpty), 0, 2), "seq(r0,1(E) b0,1(E))"},
		{rep(node(api.KindBegin), 3, 3), "seq(^ ^ ^)"},
		{rep(rep(a, 1, 1), 1, 1), "a"},
		{rep(rep(a, 0, 0), 0, 1), "r0,1(E)"},
		{rep(rep(a, 0, 0), 2, 3), "seq(E E b0,1(E))"},
		{rep(rep(a, 0, 1), 0, -1), "r0,-1(r0,1(a))"},
		{rep(rep(a, 0, -1), 1, -1), "seq(r0,-1(a) b0,-1(r0,-1(a)))"},
		{rep(bare(a, -1), 1, -1), "seq(b0,-1(a) b0,-1(b0,-1(a)))"},
		{rep(rep(a, 2, 2), 2, 2), "seq(seq(a a) seq(a a))"},
		{rep(rep(a, 2, 2), 1, 1), "seq(a a)"},
		{rep(rep(a, 1, 1), 2, 2), "seq(a a)"},
		{bare(rep(a, 0, 2), -1), "b0,-1(seq(r0,1(a) b0,1(a)))"},
		{seq(rep(a, 2, 2), b), "seq(seq(a a) b)"},
		{seq(a, seq(b, rep(a, 1, 1))), "seq(a seq(b a))"},
		{alt(rep(a, 0, 0), rep(b, 0, 0)), "alt(E E)"},
		{rep(seq(a, b), 2, 2), "seq(seq(a b) seq(a b))"},
		{rep(alt(a, group(2, b)), 1, 2), "seq(alt(a g2(b)) b0,1(alt(a g2(b))))"},
		{group(1, rep(group(2, rep(a, 2, 2)), 0, 2)), "g1(seq(r0,1(g2(seq(a a))) b0,1(g2(seq(a a)))))"},
	} {
		if got := told(expansion(t, c.t)); got != c.want {
			t.Errorf("Expand of %s: %s, want %s", told(c.t), got, c.want)
		}
		if got := wanted(c.t); got != c.want {
			t.Errorf("the test's own expansion of %s: %s, want %s", told(c.t), got, c.want)
		}
	}
}

func TestP14_1Examples(t *testing.T) {
	a := leaf('a')
	g := group(1, alt(a, leaf('b')))
	for _, c := range []struct {
		t    api.Node
		want string
	}{
		{rep(g, 2, 2), "seq(g1(alt(a b)) g1(alt(a b)))"},
		{rep(a, 0, 3), "seq(r0,1(a) b0,1(a) b0,1(a))"},
		{rep(a, 2, -1), "seq(a a b0,-1(a))"},
		{seq(rep(a, 1, 1), rep(leaf('b'), 0, 0)), "seq(a E)"},
		{rep(group(1, rep(a, 2, 2)), 0, 1), "r0,1(g1(seq(a a)))"},
	} {
		if got := told(expansion(t, c.t)); got != c.want {
			t.Errorf("Expand of %s: %s, want %s", told(c.t), got, c.want)
		}
	}
}

// Every pair of counts.
func TestP14_1AllCounts(t *testing.T) {
	for least := range 256 {
		for most := -1; most <= 255; most++ {
			if most != -1 && most < least {
				continue
			}
			n := rep(leaf('a'), least, most)
			hold(t, n)
			if least == 0 {
				hold(t, bare(leaf('a'), most))
			}
		}
	}
}

// Counts at their edges, of Subs that have repeats of their own.
func TestP14_1CountsOfGreaterSubs(t *testing.T) {
	edges := []int{0, 1, 2, 3, 4, 17, 254, 255}
	for _, sub := range []api.Node{group(7, rep(leaf('b'), 0, 1)), rep(seq(leaf('a'), leaf('b')), 1, 2), rep(leaf('a'), 3, -1), bare(leaf('a'), 2)} {
		for _, least := range edges {
			for _, most := range append(edges, -1) {
				if n := rep(sub, least, most); most != -1 && most < least {
					fails(t, told(n), n, api.ErrTree)
				} else if tree.Check(n) != nil {
					fails(t, told(n), n, api.ErrTooBig)
				} else {
					hold(t, n)
				}
			}
		}
	}
}

// The first Subs of a long expansion, and the last ones, by number.
func TestP14_1LongRows(t *testing.T) {
	a := leaf('a')
	for _, c := range []struct {
		t                         api.Node
		subs                      int
		first, second, next, last string
	}{
		{rep(a, 255, 255), 255, "a", "a", "a", "a"},
		{rep(a, 255, -1), 256, "a", "a", "a", "b0,-1(a)"},
		{rep(a, 254, 255), 255, "a", "a", "a", "b0,1(a)"},
		{rep(a, 1, 255), 255, "a", "b0,1(a)", "b0,1(a)", "b0,1(a)"},
		{rep(a, 2, 255), 255, "a", "a", "b0,1(a)", "b0,1(a)"},
		{rep(a, 0, 255), 255, "r0,1(a)", "b0,1(a)", "b0,1(a)", "b0,1(a)"},
		{bare(a, 255), 255, "b0,1(a)", "b0,1(a)", "b0,1(a)", "b0,1(a)"},
	} {
		x := expansion(t, c.t)
		if head(x) != "seq" || len(x.Subs) != c.subs {
			t.Fatalf("Expand of %s: %s of %d", told(c.t), head(x), len(x.Subs))
		}
		got := []string{told(x.Subs[0]), told(x.Subs[1]), told(x.Subs[2]), told(x.Subs[c.subs-1])}
		if !slices.Equal(got, []string{c.first, c.second, c.next, c.last}) {
			t.Errorf("Expand of %s: %v", told(c.t), got)
		}
	}
}

// hold holds both calls for a right tree.
func hold(t *testing.T, n api.Node) {
	t.Helper()
	if got, want := told(expansion(t, n)), wanted(n); got != want {
		t.Fatalf("Expand of %s: %s, want %s", told(n), got, want)
	}
	if got := expand.Plain(n); got != plain(n) {
		t.Fatalf("Plain of %s: %v", told(n), got)
	}
}

func TestP14_1ManyTrees(t *testing.T) {
	list := someRight()
	if len(list) < 700 {
		t.Fatalf("only %d trees", len(list))
	}
	for _, n := range list {
		hold(t, n)
	}
}

func TestP14_1EverySet(t *testing.T) {
	full := api.Set{math.MaxUint64, math.MaxUint64, math.MaxUint64, math.MaxUint64}
	for b := range 256 {
		some := leaf(byte(b))
		others := some
		for i := range full {
			others.Set[i] = full[i] &^ some.Set[i]
		}
		hold(t, rep(alt(some, others), 1, 2))
	}
}

func TestP14_1EveryNumberOfAGroup(t *testing.T) {
	for num := range 1001 {
		n := rep(group(num, leaf('a')), 1, -1)
		if num == 0 || num == 1000 {
			fails(t, told(n), n, api.ErrTree)
			continue
		}
		hold(t, n)
	}
}

// What stands below a repeat with Max 0 may have any size; none of it is left.
func TestP14_1BelowMaxZero(t *testing.T) {
	for _, huge := range []api.Node{
		row(2000), row(5000), repeats(97, leaf('a'), 255, 255), repeats(97, leaf('a'), 0, 255), rep(repeats(90, row(100), 255, -1), 0, 0), nest(195, group(3, leaf('a'))),
	} {
		for _, n := range []api.Node{rep(huge, 0, 0), bare(huge, 0)} {
			if got := told(expansion(t, n)); got != "E" {
				t.Errorf("Expand of 0 to 0 of a great tree: %s", got)
			}
			if got := told(expansion(t, seq(leaf('a'), n))); got != "seq(a E)" {
				t.Errorf("Expand of a and 0 to 0 of a great tree: %s", got)
			}
			if expand.Plain(n) {
				t.Error("Plain of 0 to 0 of a great tree")
			}
		}
	}
	fails(t, "0 to 0 of what isn't in form", rep(group(0, leaf('a')), 0, 0), api.ErrTree)
	fails(t, "0 to 0 of what is too deep", rep(nest(198, leaf('a')), 0, 0), api.ErrDeep)
}

// Trees as deep and as great as may be, and one deeper, one greater.
func TestP14_1AtTheBounds(t *testing.T) {
	a := leaf('a')
	for _, n := range []api.Node{
		row(1999), rep(row(998), 1, -1), rep(rep(a, 255, 255), 7, 7), nest(199, a), nest(197, rep(a, 2, 3)), nest(197, rep(a, 0, 0)), nest(197, rep(a, 1, 1)),
		repeats(199, a, 0, -1), repeats(199, a, 0, 1), rep(repeats(99, a, 1, 1), 0, 1), seq(nest(198, a), nest(198, a), nest(198, a), nest(198, a)),
		rep(nest(197, a), 10, 10), rep(nest(197, a), 0, 9),
	} {
		hold(t, n)
	}
	for _, n := range []api.Node{nest(200, a), nest(198, rep(a, 2, 3)), nest(198, rep(a, 0, 0)), repeats(200, a, 0, -1), repeats(100, a, 1, 1), nest(65000, a), nest(200, row(2000))} {
		fails(t, "a tree too deep", n, api.ErrDeep)
	}
	for _, n := range []api.Node{row(2000), rep(row(999), 2, 2), rep(row(999), 0, 2), rep(rep(a, 255, 255), 8, 8), repeats(99, a, 255, 255), rep(row(2000), 1, 1), rep(nest(197, a), 0, 11)} {
		fails(t, "a tree too great", n, api.ErrTooBig)
	}
}

func TestP14_1TreesNotInForm(t *testing.T) {
	a := leaf('a')
	spoiled := func(n api.Node, change func(*api.Node)) api.Node {
		change(&n)
		return n
	}
	for name, n := range map[string]api.Node{
		"the zero Node":      {},
		"kind 9":             node(9),
		"kind -1":            node(-1, a),
		"Seq of one":         seq(a),
		"Seq of none":        seq(),
		"Alt of one":         alt(a),
		"Alt of none":        alt(),
		"Group of none":      {Kind: api.KindGroup, Num: 1},
		"Group of two":       {Kind: api.KindGroup, Num: 1, Subs: []api.Node{a, a}},
		"Group 0":            group(0, a),
		"Group 1000":         group(1000, a),
		"Rep of none":        {Kind: api.KindRep, Max: 1},
		"0 to 0 of none":     node(api.KindRep),
		"Rep of two":         {Kind: api.KindRep, Max: 1, Subs: []api.Node{a, a}},
		"2 to 1":             rep(a, 2, 1),
		"1 to 0":             rep(a, 1, 0),
		"0 to -2":            rep(a, 0, -2),
		"-1 to 1":            rep(a, -1, 1),
		"0 to 256":           rep(a, 0, 256),
		"256 without end":    rep(a, 256, -1),
		"the least numbers":  rep(a, math.MinInt, math.MinInt),
		"the greatest ones":  rep(a, math.MaxInt, math.MaxInt),
		"1 to 1, bare":       spoiled(rep(a, 1, 1), func(n *api.Node) { n.Bare = true }),
		"a bare Group":       spoiled(group(1, a), func(n *api.Node) { n.Bare = true }),
		"Empty with a Max":   spoiled(node(api.KindEmpty), func(n *api.Node) { n.Max = 1 }),
		"Seq with a Min":     spoiled(seq(a, a), func(n *api.Node) { n.Min = 2 }),
		"Alt with a Num":     spoiled(alt(a, a), func(n *api.Node) { n.Num = 2 }),
		"Rep with a Set":     spoiled(rep(a, 0, 1), func(n *api.Node) { n.Set[3] = 1 << 63 }),
		"Bytes with a Sub":   node(api.KindBytes, a),
		"Begin with a Sub":   node(api.KindBegin, a),
		"Bytes with a count": spoiled(a, func(n *api.Node) { n.Max = -1 }),
	} {
		fails(t, name, n, api.ErrTree)
		for _, around := range []api.Node{
			group(1, n), seq(a, n), seq(n, a), alt(a, a, n), rep(n, 0, 1), rep(n, 2, 2), rep(n, 0, 0), rep(n, 1, 1), bare(n, -1),
			nest(300, n), seq(row(2500), n), rep(seq(n, row(2500)), 0, 0),
		} {
			fails(t, name+" in another node", around, api.ErrTree)
		}
	}
}

// Which of several errors is told: that of the form, then that of the depth, then that of the size.
func TestP14_1ErrorsInOrder(t *testing.T) {
	deep, great, wrong := nest(200, leaf('a')), row(2500), group(0, leaf('a'))
	fails(t, "deep, great, not in form", seq(deep, great, wrong), api.ErrTree)
	fails(t, "great, not in form", seq(great, wrong), api.ErrTree)
	fails(t, "deep, not in form", seq(deep, wrong), api.ErrTree)
	fails(t, "great, deep", seq(great, deep), api.ErrDeep)
	fails(t, "great", seq(great, leaf('a')), api.ErrTooBig)
}

func TestP14_1AnyTree(t *testing.T) {
	right := 0
	for i := range 40000 {
		m := &maker{Rand: rand.New(rand.NewSource(int64(i)))}
		n := m.loose(1 + i%4)
		want := tree.Check(n)
		if want != nil {
			fails(t, told(n), n, want)
			continue
		}
		right++
		hold(t, n)
	}
	if right < 200 {
		t.Errorf("only %d right trees", right)
	}
}

func TestP14_1Plain(t *testing.T) {
	a, b := leaf('a'), leaf('b')
	for _, n := range []api.Node{
		node(api.KindEmpty), node(api.KindBegin), node(api.KindEnd), node(api.KindBytes), a, seq(a, b), seq(a, seq(a, b)), alt(a, a), group(1, a),
		rep(a, 0, 1), rep(a, 0, -1), bare(a, 1), bare(a, -1), rep(rep(a, 0, 1), 0, 1), seq(bare(a, 1), rep(a, 0, 1)), seq(a, bare(a, -1)), group(3, group(3, rep(alt(a, rep(b, 0, -1)), 0, 1))),
		row(1999), nest(199, a),
	} {
		if !expand.Plain(n) {
			t.Errorf("Plain of %s: false", told(n))
		}
	}
	for _, n := range []api.Node{rep(a, 0, 0), bare(a, 0), rep(a, 1, 1), rep(a, 0, 2), bare(a, 2), rep(a, 2, 2), rep(a, 1, -1), rep(a, 1, 2), rep(a, 255, 255), rep(rep(a, 2, 2), 0, 0)} {
		for _, around := range []api.Node{n, group(2, n), seq(a, n), seq(n, b), alt(a, b, n), rep(n, 0, 1), rep(n, 0, -1), bare(n, 1), nest(150, n), seq(rep(a, 0, 1), alt(b, group(1, n)))} {
			if expand.Plain(around) {
				t.Errorf("Plain of %s: true", told(around))
			}
		}
	}
	for _, n := range []api.Node{{}, row(2000), nest(200, a), group(0, a), group(1000, a), seq(a), rep(a, 0, -2), nest(65000, a)} {
		if expand.Plain(n) {
			t.Error("Plain of a tree that isn't right")
		}
	}
}

// holdMemory holds that no two lists of an answer, and none of it and of what was handed in, share memory, spare room too; and that an answer that is changed changes nothing else.
func holdMemory(t *testing.T, n api.Node) {
	t.Helper()
	before := clone(n)
	handed := slots(n.Subs)
	one, two := expansion(t, n), expansion(t, n)
	for at, times := range slots(one.Subs, two.Subs) {
		if times > 1 {
			t.Fatalf("Expand of %s: two lists of the answers share memory", told(n))
		}
		if handed[at] > 0 {
			t.Fatalf("Expand of %s: the answer shares memory with the tree", told(n))
		}
	}
	expand.Plain(n)
	spoil(&one)
	if told(n) != told(before) || told(two) != wanted(before) || told(expansion(t, n)) != wanted(before) {
		t.Fatalf("%s became %s", told(before), told(n))
	}
}

// spoil changes all nodes of a tree, and lays others behind its lists.
func spoil(n *api.Node) {
	for i := range n.Subs {
		spoil(&n.Subs[i])
	}
	_ = append(n.Subs, node(99), node(99))
	n.Kind, n.Num, n.Bare = 77, 77, true
	n.Set[0]++
}

func TestP14_1NewMemory(t *testing.T) {
	a := leaf('a')
	for _, n := range someRight() {
		holdMemory(t, n)
	}
	sub := seq(a, group(1, seq(a, a)))
	for _, counts := range [][2]int{{0, 0}, {0, 1}, {0, -1}, {1, 1}, {1, -1}, {2, 2}, {3, -1}, {0, 2}, {0, 3}, {1, 2}, {2, 5}} {
		holdMemory(t, rep(sub, counts[0], counts[1]))
		holdMemory(t, rep(rep(sub, 2, 3), counts[0], counts[1]))
		holdMemory(t, seq(rep(sub, counts[0], counts[1]), rep(sub, counts[0], counts[1])))
	}
}

// Trees whose lists have spare room, or share memory with one another.
func TestP14_1NewMemoryOfListsThatShare(t *testing.T) {
	shared := slices.Grow([]api.Node{leaf('a'), leaf('b'), leaf('c')}, 5)
	roomy := func(kind int) api.Node { return node(kind, make([]api.Node, 0, 4)...) }
	for _, n := range []api.Node{
		roomy(api.KindEmpty), roomy(api.KindBegin), roomy(api.KindEnd), roomy(api.KindBytes),
		node(api.KindAlt, node(api.KindSeq, shared...), node(api.KindSeq, shared[:2]...), api.Node{Kind: api.KindEmpty, Subs: shared[:0]}),
		{Kind: api.KindRep, Min: 2, Max: 3, Subs: shared[:1]},
		{Kind: api.KindRep, Max: 1, Subs: shared[:1]},
		{Kind: api.KindRep, Min: 1, Max: 1, Subs: []api.Node{{Kind: api.KindEnd, Subs: shared[:0]}}},
		{Kind: api.KindRep, Min: 2, Max: 2, Subs: []api.Node{{Kind: api.KindEnd, Subs: shared[:0]}}},
		{Kind: api.KindRep, Max: 0, Subs: shared[:1]},
		node(api.KindSeq, group(1, node(api.KindAlt, shared...)), rep(node(api.KindAlt, shared...), 1, -1)),
	} {
		holdMemory(t, n)
	}
}

func TestP14_2TheExpansion(t *testing.T) {
	a := leaf('a')
	list := append(someRight(), patterns([]string{"a", "^", "(b)", "()", "(", ")", "|", "*", "?", "+", "{0}", "{1}", "{2}", "{0,2}", "{1,3}", "{2,}"}, 4)...)
	for least := range 20 {
		for most := -1; most < 20; most++ {
			list = append(list, rep(group(1, rep(a, 0, 3)), least, most), rep(rep(a, 2, -1), least, most), bare(rep(a, 1, 1), most))
		}
	}
	list = append(list, row(1999), rep(row(998), 1, -1), nest(199, a), nest(197, rep(a, 2, 3)), repeats(99, a, 1, 1), repeats(9, a, 0, 2), rep(repeats(97, a, 255, 255), 0, 0), rep(row(5000), 0, 0))
	tried := 0
	for _, n := range list {
		if tree.Check(n) != nil {
			continue
		}
		tried++
		holdExpansion(t, n)
	}
	if tried < 6000 {
		t.Errorf("only %d trees", tried)
	}
}

// holdExpansion holds that the expansion is a right tree, has as many nodes as the size tells, is no deeper than the tree, and is its own expansion.
func holdExpansion(t *testing.T, n api.Node) {
	t.Helper()
	x := expansion(t, n)
	if err := tree.Check(x); err != nil {
		t.Fatalf("the expansion of %s: %v", told(n), err)
	}
	if nodes(x) != tree.Size(n) || tree.Size(x) != tree.Size(n) || tree.Depth(x) > tree.Depth(n) {
		t.Fatalf("the expansion of %s: %d nodes, Size %d, want %d", told(n), nodes(x), tree.Size(x), tree.Size(n))
	}
	if again := expansion(t, x); told(again) != told(x) || !expand.Plain(x) {
		t.Fatalf("the expansion of %s, expanded again: %s, want %s", told(n), told(again), told(x))
	}
	if expand.Plain(n) != (told(x) == told(n)) {
		t.Fatalf("Plain of %s: %v", told(n), expand.Plain(n))
	}
}

// holdPieces holds that a tree and its expansion take the same pieces of a scene, with the same spans by the best parse of each.
func holdPieces(t *testing.T, n api.Node, x *scene.Scene) {
	t.Helper()
	e := expansion(t, n)
	for from := range x.Len() + 1 {
		want, err := reach.Ends(n, x, from)
		got, wrong := reach.Ends(e, x, from)
		if err != nil || wrong != nil || !slices.Equal(got, want) {
			t.Fatalf("the expansion of %s in %q from %d: %v, want %v (%v, %v)", told(n), x.Text(), from, got, want, wrong, err)
		}
		for _, to := range want {
			if got, want := spans(t, n, e, x, from, to), spans(t, n, n, x, from, to); !slices.Equal(got, want) {
				t.Fatalf("the expansion of %s in %q from %d to %d: %v, want %v", told(n), x.Text(), from, to, got, want)
			}
		}
	}
}

// spans answers the spans of all of n's groups by the best parse that t, which is n or its expansion, has of a piece.
func spans(test *testing.T, n, t api.Node, x *scene.Scene, from, to int) []api.Span {
	test.Helper()
	p, found, err := parses.Best(t, x, from, to)
	if err != nil || !found {
		test.Fatalf("Best of %s in %q from %d to %d: %v, %v", told(t), x.Text(), from, to, found, err)
	}
	list, ok := rank.Spans(t, x, p, tree.Groups(n))
	if !ok {
		test.Fatalf("Spans of %s in %q from %d to %d", told(t), x.Text(), from, to)
	}
	return list
}

func TestP14_3ByHand(t *testing.T) {
	a, b, ab := leaf('a'), leaf('b'), seq(leaf('a'), leaf('b'))
	g := group(1, alt(a, ab, rep(b, 0, -1)))
	for _, c := range []struct {
		t    api.Node
		text string
		want []api.Span
	}{
		{rep(g, 2, 2), "aab", []api.Span{{From: 0, To: 3}, {From: 1, To: 3}}},
		{rep(g, 2, 2), "ab", []api.Span{{From: 0, To: 2}, {From: 2, To: 2}}},
		{rep(g, 0, 3), "", []api.Span{{From: 0, To: 0}, {From: 0, To: 0}}},
		{bare(g, 3), "", []api.Span{{From: 0, To: 0}, {From: -1, To: -1}}},
		{rep(g, 0, 3), "a", []api.Span{{From: 0, To: 1}, {From: 0, To: 1}}},
		{rep(g, 1, 3), "", []api.Span{{From: 0, To: 0}, {From: 0, To: 0}}},
		{rep(g, 1, 3), "ab", []api.Span{{From: 0, To: 2}, {From: 0, To: 2}}},
		{rep(g, 2, -1), "aaab", []api.Span{{From: 0, To: 4}, {From: 2, To: 4}}},
		{seq(rep(g, 0, 0), a), "a", []api.Span{{From: 0, To: 1}, {From: -1, To: -1}}},
		{rep(alt(group(1, a), group(2, b)), 2, 2), "ab", []api.Span{{From: 0, To: 2}, {From: 0, To: 1}, {From: 1, To: 2}}},
		{rep(group(2, alt(group(1, a), b)), 1, 2), "ab", []api.Span{{From: 0, To: 2}, {From: -1, To: -1}, {From: 1, To: 2}}},
	} {
		x := scene.New(c.text, 0, 0)
		if got := spans(t, c.t, expansion(t, c.t), x, 0, len(c.text)); !slices.Equal(got, c.want) {
			t.Errorf("the expansion of %s in %q: %v, want %v", told(c.t), c.text, got, c.want)
		}
		holdPieces(t, c.t, x)
	}
}

func TestP14_3SmallPatterns(t *testing.T) {
	words := []string{"a", "b", "^", "(a|ab)", "(a?)", "(|b)", "(", ")", "|", "*", "?", "{0}", "{2}", "{0,2}", "{1,3}", "{2,}"}
	for i, n := range patterns(words, 4) {
		holdPieces(t, n, scene.New([]string{"aab", "ab", "", "aba"}[i%4], 0, 0))
		if i%4 == 0 {
			holdPieces(t, bared(n), scene.New("aab", 0, 0))
			holdPieces(t, n, scene.New("a\nab", api.Newline, i/4%4))
		}
	}
}

// Trees whose groups' numbers are each once in the tree, and ones in which a number may be there more than once. Among the latter no group stands below a repeat with Max 0: by chapter 12 its number would still be counted to the groups around it, while nothing of it is left in the expansion.
func TestP14_3RandomTrees(t *testing.T) {
	counted := 0
	for i := range 6000 {
		m := &maker{Rand: rand.New(rand.NewSource(int64(i))), numbers: i % 2 * 3}
		n := m.tree(3 + i%4)
		if tree.Check(n) != nil || tree.Size(n) > 400 {
			continue
		}
		if !plain(n) {
			counted++
		}
		var text []byte
		for range m.Intn(5) {
			text = append(text, "aab\n"[m.Intn(4)])
		}
		x := scene.New(string(text), api.Newline*m.Intn(2), m.Intn(4))
		if i%5 == 0 {
			x = x.Turned()
		}
		holdPieces(t, n, x)
	}
	if counted < 1500 {
		t.Errorf("only %d trees with a count", counted)
	}
}
