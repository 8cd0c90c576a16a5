package normal_test

import (
	"errors"
	"math"
	"math/rand"
	"slices"
	"testing"

	"trawl/api"
	"trawl/normal"
	"trawl/parses"
	"trawl/rank"
	"trawl/reach"
	"trawl/scene"
	"trawl/tree"
)

// fails holds Normal for a tree that isn't right: the error has to be this one, and no other, without a place or a number; the tree beside it zero.
func fails(t *testing.T, name string, n api.Node, want error) {
	t.Helper()
	x, err := normal.Normal(n)
	for _, other := range []error{api.ErrTree, api.ErrDeep, api.ErrTooBig, api.ErrArgument} {
		if errors.Is(err, other) != (other == want) {
			t.Errorf("%s: Normal fails with %v, want %v", name, err, want)
		}
	}
	var fault *api.Fault
	var listed *api.Listed
	if errors.As(err, &fault) || errors.As(err, &listed) {
		t.Errorf("%s: the error tells a place or a number", name)
	}
	if told(x) != "kind0" {
		t.Errorf("%s: Normal answers %s beside an error", name, told(x))
	}
}

// form answers what Normal does of a right tree.
func form(t *testing.T, n api.Node) api.Node {
	t.Helper()
	x, err := normal.Normal(n)
	if err != nil {
		t.Fatalf("Normal of %s: %v", told(n), err)
	}
	return x
}

// hold holds both calls for a right tree.
func hold(t *testing.T, n api.Node) {
	t.Helper()
	if got, want := told(form(t, n)), told(normalOf(n)); got != want {
		t.Fatalf("Normal of %s: %s, want %s", told(n), got, want)
	}
	if got := normal.Free(n); got == grouped(n) {
		t.Fatalf("Free of %s: %v", told(n), got)
	}
}

// holdByHand holds Normal, and the test's own telling of it, to what was written by hand.
func holdByHand(t *testing.T, n api.Node, want string) {
	t.Helper()
	if got := told(form(t, n)); got != want {
		t.Errorf("Normal of %s: %s, want %s", told(n), got, want)
	}
	if got := told(normalOf(n)); got != want {
		t.Errorf("the test's own normal form of %s: %s, want %s", told(n), got, want)
	}
}

func both() api.Node {
	t := leaf('a')
	t.Set[1] |= leaf('b').Set[1]
	return t
}

func TestP15_1Free(t *testing.T) {
	a, x := leaf('a'), group(1, leaf('b'))
	for _, n := range []api.Node{
		{}, a, node(api.KindEmpty), node(api.KindBegin), node(api.KindEnd), node(api.KindBytes), node(9), node(-1, a), node(math.MaxInt, a, a),
		seq(), seq(a), seq(a, a), alt(a, seq(a, rep(a, 0, 0))), rep(a, 2, 1), {Kind: api.KindRep, Num: 7}, {Kind: api.KindEmpty, Num: 1, Bare: true}, row(5000), repeats(65000, a, 0, 1),
	} {
		if !normal.Free(n) {
			t.Errorf("Free of %.40s: false", told(n))
		}
	}
	for _, n := range []api.Node{
		x, group(0, a), group(-3, a), group(1000, a), node(api.KindGroup), node(api.KindGroup, a, a), {Kind: api.KindGroup, Min: 2, Max: -9}, group(1, group(2, a)), nest(65000, a),
	} {
		for _, around := range []api.Node{
			n, seq(n), seq(a, n), seq(n, a), alt(a, a, n, a), rep(n, 0, 0), bare(n, -1), rep(n, 9, 3), node(0, n), node(9, a, n), node(api.KindBytes, n), node(api.KindEmpty, a, n), seq(a, alt(a, rep(seq(a, n), 0, 1))),
		} {
			if normal.Free(around) {
				t.Errorf("Free of %.40s: true", told(around))
			}
		}
	}
}

func TestP15_1Examples(t *testing.T) {
	a, b, empty, begin := leaf('a'), leaf('b'), node(api.KindEmpty), node(api.KindBegin)
	x := group(1, alt(a, seq(a, b)))
	for _, c := range []struct {
		t, want api.Node
	}{
		{alt(a, b, empty, a), alt(both(), empty)},
		{seq(a, seq(empty, b), begin, begin), seq(a, b, begin)},
		{rep(rep(a, 0, -1), 2, 5), rep(a, 0, -1)},
		{rep(begin, 0, 9), empty},
		{seq(a, node(api.KindBytes)), node(api.KindBytes)},
		{bare(a, 1), rep(a, 0, 1)},
		{seq(empty, x, alt(a, b)), seq(empty, x, both())},
		{rep(x, 1, 1), rep(x, 1, 1)},
	} {
		holdByHand(t, c.t, told(c.want))
	}
}

func TestP15_1SeqByHand(t *testing.T) {
	a, b, c, empty, none, begin, end := leaf('a'), leaf('b'), leaf('c'), node(1), node(2), node(3), node(4)
	for _, v := range []struct {
		t    api.Node
		want string
	}{
		{seq(a, b), "seq(a b)"},
		{seq(a, a), "seq(a a)"},
		{seq(b, a, b), "seq(b a b)"},
		{seq(empty, empty), "E"},
		{seq(empty, a), "a"},
		{seq(a, empty), "a"},
		{seq(a, empty, b), "seq(a b)"},
		{seq(seq(a, b), c), "seq(a b c)"},
		{seq(a, seq(b, c)), "seq(a b c)"},
		{seq(seq(a, b), seq(c, a)), "seq(a b c a)"},
		{seq(seq(seq(a, b), c), seq(a, seq(b, c))), "seq(a b c a b c)"},
		{seq(seq(empty, empty), a), "a"},
		{seq(alt(a, seq(b, c)), a), "seq(alt(a seq(b c)) a)"},
		{seq(none, a), "S0.0.0.0."},
		{seq(a, none, b), "S0.0.0.0."},
		{seq(a, seq(b, none)), "S0.0.0.0."},
		{seq(empty, none), "S0.0.0.0."},
		{seq(begin, none), "S0.0.0.0."},
		{seq(a, alt(none, none)), "S0.0.0.0."},
		{seq(a, alt(none, b)), "seq(a b)"},
		{seq(a, rep(none, 0, 1)), "a"},
		{seq(a, rep(none, 1, 2)), "S0.0.0.0."},
		{seq(begin, begin), "^"},
		{seq(end, end, end), "$"},
		{seq(begin, end), "seq(^ $)"},
		{seq(end, begin), "seq($ ^)"},
		{seq(begin, end, begin), "seq(^ $ ^)"},
		{seq(begin, begin, end, end, begin), "seq(^ $ ^)"},
		{seq(begin, empty, begin), "^"},
		{seq(begin, seq(begin, a), begin), "seq(^ a ^)"},
		{seq(seq(a, end), seq(end, b)), "seq(a $ b)"},
		{seq(begin, a, begin), "seq(^ a ^)"},
		{seq(begin, rep(begin, 0, 4), begin, a), "seq(^ a)"},
		{seq(begin, rep(begin, 1, 4), begin, a), "seq(^ a)"},
		{seq(a, rep(a, 0, -1), rep(a, 0, -1)), "seq(a r0,-1(a) r0,-1(a))"},
		{seq(rep(seq(a, b), 1, 1), c), "seq(a b c)"},
		{seq(alt(seq(a, b), seq(a, b)), c), "seq(a b c)"},
	} {
		holdByHand(t, v.t, v.want)
	}
}

func TestP15_1AltByHand(t *testing.T) {
	a, b, empty, none, begin, end := leaf('a'), leaf('b'), node(1), node(2), node(3), node(4)
	ab, aOrB := seq(leaf('a'), leaf('b')), told(both())
	for _, v := range []struct {
		t    api.Node
		want string
	}{
		{alt(a, b), aOrB},
		{alt(b, a), aOrB},
		{alt(a, a), "a"},
		{alt(a, b, a, b), aOrB},
		{alt(a, both()), aOrB},
		{alt(a, empty), "alt(a E)"},
		{alt(empty, a), "alt(E a)"},
		{alt(empty, empty), "E"},
		{alt(a, empty, b, empty), "alt(" + aOrB + " E)"},
		{alt(empty, a, b), "alt(E " + aOrB + ")"},
		{alt(ab, a, begin, b), "alt(seq(a b) " + aOrB + " ^)"},
		{alt(none, none), "S0.0.0.0."},
		{alt(none, a), "a"},
		{alt(a, none, ab), "alt(a seq(a b))"},
		{alt(none, ab), "seq(a b)"},
		{alt(none, empty, a), "alt(E a)"},
		{alt(seq(a, none), ab), "seq(a b)"},
		{alt(rep(none, 2, 2), rep(none, 0, 2)), "E"},
		{alt(begin, begin), "^"},
		{alt(begin, end, begin, end), "alt(^ $)"},
		{alt(ab, ab), "seq(a b)"},
		{alt(ab, begin, ab), "alt(seq(a b) ^)"},
		{alt(begin, ab, end, ab), "alt(^ seq(a b) $)"},
		{alt(ab, seq(b, a)), "alt(seq(a b) seq(b a))"},
		{alt(ab, seq(a, node(1), b)), "seq(a b)"},
		{alt(ab, seq(a, b, b)), "alt(seq(a b) seq(a b b))"},
		{alt(alt(a, empty), b), "alt(" + aOrB + " E)"},
		{alt(ab, alt(a, empty), b), "alt(seq(a b) " + aOrB + " E)"},
		{alt(alt(ab, begin), alt(ab, end)), "alt(seq(a b) ^ $)"},
		{alt(alt(ab, alt(a, begin)), alt(b, end)), "alt(seq(a b) " + aOrB + " ^ $)"},
		{alt(seq(a, alt(b, empty)), a), "alt(seq(a alt(b E)) a)"},
		{alt(rep(a, 0, 1), bare(a, 1)), "r0,1(a)"},
		{alt(rep(a, 0, 1), rep(a, 0, 2), rep(a, 1, 2), rep(b, 0, 1)), "alt(r0,1(a) r0,2(a) r1,2(a) r0,1(b))"},
		{alt(rep(alt(a, b), 1, 2), rep(both(), 1, 2)), "r1,2(" + aOrB + ")"},
		{alt(seq(alt(begin, empty), end, a), seq(alt(begin, empty, end), a)), "alt(seq(alt(^ E) $ a) seq(alt(^ E $) a))"},
		{rep(alt(a, b), 1, 1), aOrB},
	} {
		holdByHand(t, v.t, v.want)
	}
}

func TestP15_1RepByHand(t *testing.T) {
	a, b, empty, none, begin, end := leaf('a'), leaf('b'), node(1), node(2), node(3), node(4)
	for _, v := range []struct {
		t    api.Node
		want string
	}{
		{rep(a, 0, 0), "E"},
		{bare(a, 0), "E"},
		{rep(none, 0, 0), "E"},
		{rep(begin, 0, 0), "E"},
		{rep(rep(a, 0, -1), 0, 0), "E"},
		{rep(empty, 0, 1), "E"},
		{rep(empty, 1, 1), "E"},
		{rep(empty, 3, -1), "E"},
		{rep(seq(empty, empty), 2, 5), "E"},
		{rep(none, 0, 1), "E"},
		{rep(none, 0, -1), "E"},
		{bare(none, 4), "E"},
		{rep(none, 1, 1), "S0.0.0.0."},
		{rep(none, 2, -1), "S0.0.0.0."},
		{rep(begin, 0, 1), "E"},
		{rep(end, 0, -1), "E"},
		{bare(end, 7), "E"},
		{rep(begin, 1, 1), "^"},
		{rep(begin, 1, -1), "^"},
		{rep(end, 3, 5), "$"},
		{rep(alt(begin, begin), 2, 2), "^"},
		{rep(a, 1, 1), "a"},
		{rep(seq(a, b), 1, 1), "seq(a b)"},
		{rep(rep(a, 2, 3), 1, 1), "r2,3(a)"},
		{rep(rep(a, 0, -1), 0, 1), "r0,-1(a)"},
		{rep(rep(a, 0, -1), 0, -1), "r0,-1(a)"},
		{rep(rep(a, 0, -1), 255, 255), "r0,-1(a)"},
		{rep(bare(a, -1), 1, -1), "r0,-1(a)"},
		{bare(rep(a, 0, -1), 1), "r0,-1(a)"},
		{rep(rep(rep(a, 0, -1), 0, 3), 1, 2), "r0,-1(a)"},
		{rep(rep(a, 1, -1), 0, -1), "r0,-1(r1,-1(a))"},
		{rep(rep(a, 0, 1), 0, -1), "r0,-1(r0,1(a))"},
		{rep(rep(a, 0, 255), 0, 1), "r0,1(r0,255(a))"},
		{rep(rep(a, 2, 2), 2, 2), "r2,2(r2,2(a))"},
		{rep(alt(rep(a, 0, -1), none), 0, 1), "r0,-1(a)"},
		{rep(alt(rep(a, 0, -1), empty), 0, -1), "r0,-1(alt(r0,-1(a) E))"},
		{rep(a, 0, 1), "r0,1(a)"},
		{bare(a, 1), "r0,1(a)"},
		{bare(a, -1), "r0,-1(a)"},
		{bare(bare(a, 2), 3), "r0,3(r0,2(a))"},
		{rep(alt(a, empty), 0, 2), "r0,2(alt(a E))"},
		{rep(seq(begin, end), 0, -1), "r0,-1(seq(^ $))"},
		{rep(seq(a, seq(empty, b)), 2, -1), "r2,-1(seq(a b))"},
		{rep(a, 255, 255), "r255,255(a)"},
	} {
		holdByHand(t, v.t, v.want)
	}
}

// What has a group in it stays, but for its parts that have none.
func TestP15_1Groups(t *testing.T) {
	a, b, empty, none, begin := leaf('a'), leaf('b'), node(1), node(2), node(3)
	x := group(3, a)
	for _, v := range []struct {
		t    api.Node
		want string
	}{
		{x, "G3(a)"},
		{group(999, alt(a, a)), "G999(a)"},
		{group(1, group(1, rep(a, 1, 1))), "G1(G1(a))"},
		{group(1, empty), "G1(E)"},
		{group(1, seq(a, none)), "G1(S0.0.0.0.)"},
		{seq(empty, x, empty), "seq(E G3(a) E)"},
		{seq(begin, begin, x), "seq(^ ^ G3(a))"},
		{seq(seq(a, x), seq(b, x)), "seq(seq(a G3(a)) seq(b G3(a)))"},
		{seq(seq(a, seq(b, a)), seq(b, x)), "seq(seq(a b a) seq(b G3(a)))"},
		{seq(none, x), "seq(S0.0.0.0. G3(a))"},
		{alt(a, b, x), "alt(a b G3(a))"},
		{alt(x, x), "alt(G3(a) G3(a))"},
		{alt(none, x, none), "alt(S0.0.0.0. G3(a) S0.0.0.0.)"},
		{alt(alt(a, x), alt(a, b)), "alt(alt(a G3(a)) " + told(both()) + ")"},
		{alt(alt(seq(a, b), empty), x, empty), "alt(alt(seq(a b) E) G3(a) E)"},
		{rep(x, 0, 0), "r0,0(G3(a))"},
		{bare(x, 0), "b0,0(G3(a))"},
		{rep(x, 1, 1), "r1,1(G3(a))"},
		{bare(x, -1), "b0,-1(G3(a))"},
		{rep(rep(x, 0, -1), 0, -1), "r0,-1(r0,-1(G3(a)))"},
		{rep(seq(rep(a, 1, 1), x), 2, 3), "r2,3(seq(a G3(a)))"},
		{rep(seq(rep(a, 1, 1), x), 0, 0), "r0,0(seq(a G3(a)))"},
		{seq(bare(a, 1), rep(group(2, bare(seq(a, seq(b, empty)), -1)), 0, 1)), "seq(r0,1(a) r0,1(G2(r0,-1(seq(a b)))))"},
	} {
		holdByHand(t, v.t, v.want)
	}
}

// Every pair of counts.
func TestP15_1AllCounts(t *testing.T) {
	begin := node(api.KindBegin)
	for least := range 256 {
		for most := -1; most <= 255; most++ {
			if most != -1 && most < least {
				continue
			}
			for _, sub := range []api.Node{leaf('a'), begin, node(2), rep(leaf('b'), 0, -1)} {
				hold(t, rep(sub, least, most))
				if least == 0 {
					hold(t, bare(sub, most))
				}
			}
		}
	}
}

// Repeats in one another, with all pairs of small counts.
func TestP15_1RepeatsInRepeats(t *testing.T) {
	for _, sub := range []api.Node{leaf('a'), node(1), node(2), node(4), seq(leaf('a'), leaf('a')), group(1, rep(leaf('a'), 1, 1))} {
		for i := range 5 * 5 * 5 * 5 {
			within := rep(sub, i%5, i/5%5-1)
			around := rep(within, i/25%5, i/125-1)
			if tree.Check(around) == nil {
				hold(t, around)
			}
		}
	}
}

// Every pair of bytes, as alternatives.
func TestP15_1EveryByte(t *testing.T) {
	for i := range 256 {
		for j := range 256 {
			n := alt(leaf(byte(i)), leaf(byte(j)))
			var want api.Set
			want[i/64] |= 1 << (i % 64)
			want[j/64] |= 1 << (j % 64)
			if got := form(t, n); !tree.Same(got, api.Node{Kind: api.KindBytes, Set: want}) {
				t.Fatalf("Normal of byte %d or %d: %s", i, j, told(got))
			}
		}
	}
	var all []api.Node
	for i := range 256 {
		all = append(all, leaf(byte(255-i)))
	}
	full := api.Set{math.MaxUint64, math.MaxUint64, math.MaxUint64, math.MaxUint64}
	if got := form(t, node(api.KindAlt, all...)); !tree.Same(got, api.Node{Kind: api.KindBytes, Set: full}) {
		t.Errorf("Normal of all bytes: %s", told(got))
	}
}

// All Seqs and Alts of few parts.
func TestP15_1AllSmallLists(t *testing.T) {
	a := leaf('a')
	parts := []api.Node{
		node(1), node(2), node(3), node(4), a, leaf('b'), seq(a, leaf('b')), seq(node(3), node(4)), alt(a, node(1)), alt(node(4), node(3)), rep(a, 0, -1), rep(a, 0, 1), group(1, a),
	}
	for _, p := range parts {
		for _, q := range parts {
			hold(t, seq(p, q))
			hold(t, alt(p, q))
			for _, r := range parts {
				hold(t, seq(p, q, r))
				hold(t, alt(p, q, r))
				hold(t, seq(p, alt(q, r)))
				hold(t, alt(seq(p, q), r))
				hold(t, seq(p, rep(seq(q, r), 1, 1)))
				hold(t, alt(p, rep(alt(q, r), 1, 1)))
			}
		}
	}
}

func TestP15_1ManyTrees(t *testing.T) {
	list := someRight()
	if len(list) < 700 {
		t.Fatalf("only %d trees", len(list))
	}
	for _, n := range list {
		hold(t, n)
	}
}

// What stands below a repeat with Max 0 may have any size: with a group in it, it is still made simple, and soon.
func TestP15_1BelowMaxZero(t *testing.T) {
	a := leaf('a')
	huge := repeats(97, a, 2, 2)
	holdByHand(t, rep(huge, 0, 0), "E")
	holdByHand(t, rep(row(5000), 0, 0), "E")
	hold(t, rep(group(1, huge), 0, 0))
	hold(t, bare(seq(group(1, a), row(2500), row(2500)), 0))
	var many []api.Node
	for i := range 60000 {
		many = append(many, seq(rep(leaf('a'), 0, i/256%256), rep(leaf('b'), i%256, -1)))
	}
	got := form(t, rep(group(1, node(api.KindAlt, append(many, many[:10000]...)...)), 0, 0))
	list := got.Subs[0].Subs[0].Subs
	if len(list) != 60000 || told(list[0]) != "r0,-1(b)" || told(list[1]) != "r1,-1(b)" || told(list[300]) != "seq(r0,1(a) r44,-1(b))" {
		t.Errorf("Normal of many alternatives: %d of them, %s, %s, %s", len(list), told(list[0]), told(list[1]), told(list[300]))
	}
}

// Trees as deep and as great as may be, and one deeper, one greater.
func TestP15_1AtTheBounds(t *testing.T) {
	a, empty := leaf('a'), node(1)
	for _, n := range []api.Node{
		row(1999), seq(row(999), row(998)), rep(row(998), 1, -1), rep(rep(a, 255, 255), 7, 7), nest(199, a), nest(197, rep(a, 2, 3)), nest(197, rep(a, 0, 0)), nest(197, rep(a, 1, 1)),
		repeats(199, a, 0, -1), repeats(199, a, 0, 1), rep(repeats(99, a, 1, 1), 0, 1), seq(nest(198, a), nest(198, a)), node(api.KindAlt, slices.Repeat([]api.Node{empty}, 1999)...),
	} {
		hold(t, n)
	}
	for _, n := range []api.Node{nest(200, a), nest(198, rep(a, 2, 3)), nest(198, rep(a, 0, 0)), repeats(200, a, 0, -1), repeats(100, a, 1, 1), nest(65000, a), nest(200, row(2000)), repeats(65000, empty, 0, 1)} {
		fails(t, "a tree too deep", n, api.ErrDeep)
	}
	for _, n := range []api.Node{row(2000), rep(row(999), 2, 2), rep(row(999), 0, 2), rep(rep(a, 255, 255), 8, 8), repeats(99, a, 255, 255), rep(row(2000), 1, 1), repeats(99, empty, 2, 2)} {
		fails(t, "a tree too great", n, api.ErrTooBig)
	}
}

func TestP15_1TreesNotInForm(t *testing.T) {
	a := leaf('a')
	spoiled := func(n api.Node, change func(*api.Node)) api.Node {
		change(&n)
		return n
	}
	for name, n := range map[string]api.Node{
		"the zero Node":      {},
		"kind 9":             node(9),
		"kind -1":            node(-1, a),
		"Seq of one":         seq(a),
		"Seq of none":        seq(),
		"Alt of one":         alt(a),
		"Alt of none":        alt(),
		"Group of none":      {Kind: api.KindGroup, Num: 1},
		"Group of two":       {Kind: api.KindGroup, Num: 1, Subs: []api.Node{a, a}},
		"Group 0":            group(0, a),
		"Group 1000":         group(1000, a),
		"Rep of none":        {Kind: api.KindRep, Max: 1},
		"0 to 0 of none":     node(api.KindRep),
		"Rep of two":         {Kind: api.KindRep, Max: 1, Subs: []api.Node{a, a}},
		"2 to 1":             rep(a, 2, 1),
		"0 to -2":            rep(a, 0, -2),
		"-1 to 1":            rep(a, -1, 1),
		"0 to 256":           rep(a, 0, 256),
		"256 without end":    rep(a, 256, -1),
		"the least numbers":  rep(a, math.MinInt, math.MinInt),
		"the greatest ones":  rep(a, math.MaxInt, math.MaxInt),
		"1 to 1, bare":       spoiled(rep(a, 1, 1), func(n *api.Node) { n.Bare = true }),
		"Empty with a Max":   spoiled(node(api.KindEmpty), func(n *api.Node) { n.Max = 1 }),
		"Seq with a Min":     spoiled(seq(a, a), func(n *api.Node) { n.Min = 2 }),
		"Alt with a Num":     spoiled(alt(a, a), func(n *api.Node) { n.Num = 2 }),
		"Rep with a Set":     spoiled(rep(a, 0, 1), func(n *api.Node) { n.Set[3] = 1 << 63 }),
		"Bytes with a Sub":   node(api.KindBytes, a),
		"Begin with a Sub":   node(api.KindBegin, a),
		"Bytes with a count": spoiled(a, func(n *api.Node) { n.Max = -1 }),
	} {
		fails(t, name, n, api.ErrTree)
		for _, around := range []api.Node{
			group(1, n), seq(a, n), seq(n, a), alt(a, a, n), rep(n, 0, 1), rep(n, 2, 2), rep(n, 0, 0), rep(n, 1, 1), bare(n, -1),
			nest(300, n), seq(row(2500), n), rep(seq(n, row(2500)), 0, 0), seq(node(2), n),
		} {
			fails(t, name+" in another node", around, api.ErrTree)
		}
	}
}

// Which of several errors is told: that of the form, then that of the depth, then that of the size.
func TestP15_1ErrorsInOrder(t *testing.T) {
	deep, great, wrong := nest(200, leaf('a')), row(2500), group(0, leaf('a'))
	fails(t, "deep, great, not in form", seq(deep, great, wrong), api.ErrTree)
	fails(t, "great, not in form", seq(great, wrong), api.ErrTree)
	fails(t, "deep, not in form", seq(deep, wrong), api.ErrTree)
	fails(t, "great, deep", seq(great, deep), api.ErrDeep)
	fails(t, "great", seq(great, leaf('a')), api.ErrTooBig)
}

func TestP15_1AnyTree(t *testing.T) {
	right := 0
	for i := range 40000 {
		m := &maker{Rand: rand.New(rand.NewSource(int64(i))), rare: i % 3}
		n := m.loose(1 + i%4)
		if want := tree.Check(n); want != nil {
			fails(t, told(n), n, want)
			if normal.Free(n) == grouped(n) {
				t.Fatalf("Free of %s: %v", told(n), normal.Free(n))
			}
			continue
		}
		right++
		hold(t, n)
	}
	if right < 200 {
		t.Errorf("only %d right trees", right)
	}
}

// holdMemory holds that no two lists of an answer, and none of it and of what was handed in, share memory, spare room too; and that an answer that is changed changes nothing else.
func holdMemory(t *testing.T, n api.Node) {
	t.Helper()
	before := clone(n)
	want := told(normalOf(before))
	handed := slots(n.Subs)
	one, two := form(t, n), form(t, n)
	for at, times := range slots(one.Subs, two.Subs) {
		if times > 1 {
			t.Fatalf("Normal of %s: two lists of the answers share memory", told(n))
		}
		if handed[at] > 0 {
			t.Fatalf("Normal of %s: the answer shares memory with the tree", told(n))
		}
	}
	normal.Free(n)
	spoil(&one)
	if told(n) != told(before) || told(two) != want || told(form(t, n)) != want {
		t.Fatalf("%s became %s", told(before), told(n))
	}
}

// spoil changes all nodes of a tree, and lays others behind its lists.
func spoil(n *api.Node) {
	for i := range n.Subs {
		spoil(&n.Subs[i])
	}
	_ = append(n.Subs, node(99), node(99))
	n.Kind, n.Num, n.Bare = 77, 77, true
	n.Set[0]++
}

func TestP15_1NewMemory(t *testing.T) {
	a := leaf('a')
	for _, n := range someRight() {
		holdMemory(t, n)
	}
	for _, sub := range []api.Node{seq(a, seq(a, a)), seq(a, rep(alt(a, node(3)), 0, 2)), alt(seq(a, a), alt(a, seq(a, a, a))), group(1, seq(a, seq(a, a)))} {
		for _, counts := range [][2]int{{0, 0}, {0, 1}, {0, -1}, {1, 1}, {1, -1}, {2, 2}, {2, 5}} {
			holdMemory(t, rep(sub, counts[0], counts[1]))
			holdMemory(t, rep(rep(sub, 0, -1), counts[0], counts[1]))
			holdMemory(t, seq(rep(sub, counts[0], counts[1]), rep(sub, counts[0], counts[1])))
			holdMemory(t, alt(a, rep(sub, counts[0], counts[1]), sub))
		}
	}
}

// Trees whose lists have spare room, or share memory with one another.
func TestP15_1NewMemoryOfListsThatShare(t *testing.T) {
	shared := slices.Grow([]api.Node{leaf('a'), seq(leaf('b'), leaf('c')), leaf('c')}, 5)
	roomy := func(kind int) api.Node { return node(kind, make([]api.Node, 0, 4)...) }
	for _, n := range []api.Node{
		roomy(api.KindEmpty), roomy(api.KindBegin), roomy(api.KindEnd), roomy(api.KindBytes),
		seq(roomy(api.KindBytes), leaf('a')), alt(roomy(api.KindBegin), roomy(api.KindEnd)), rep(roomy(api.KindBegin), 2, 2), group(1, roomy(api.KindEmpty)),
		node(api.KindAlt, node(api.KindSeq, shared...), node(api.KindSeq, shared[:2]...), api.Node{Kind: api.KindEmpty, Subs: shared[:0]}),
		{Kind: api.KindRep, Min: 2, Max: 3, Subs: shared[1:2]},
		{Kind: api.KindRep, Min: 1, Max: 1, Subs: shared[1:2]},
		{Kind: api.KindRep, Min: 1, Max: 1, Subs: []api.Node{{Kind: api.KindEnd, Subs: shared[:0]}}},
		{Kind: api.KindRep, Max: 0, Subs: shared[:1]},
		node(api.KindSeq, node(api.KindAlt, shared...), rep(node(api.KindAlt, shared...), 1, -1)),
		node(api.KindSeq, group(1, node(api.KindAlt, shared...)), rep(node(api.KindAlt, shared...), 1, -1)),
	} {
		holdMemory(t, n)
	}
}

// treesToHold are many right trees, greater ones and those of patterns among them.
func treesToHold() []api.Node {
	a := leaf('a')
	list := append(someRight(), patterns([]string{"a", "b", "^", "$", "(b)", "()", "(", ")", "|", "*", "?", "{0}", "{1}", "{2}", "{0,2}"}, 4)...)
	for least := range 20 {
		for most := -1; most < 20; most++ {
			list = append(list, rep(group(1, rep(a, 1, 1)), least, most), rep(rep(a, 2, -1), least, most), rep(rep(alt(a, node(1)), 1, 1), least, most))
		}
	}
	list = append(list, row(1999), rep(row(998), 1, -1), nest(199, a), nest(197, rep(a, 2, 3)), repeats(99, a, 1, 1), repeats(9, a, 0, 2), rep(repeats(97, a, 255, 255), 0, 0), rep(row(5000), 0, 0), rep(group(1, repeats(97, a, 255, 255)), 0, 0))
	for i := range 2000 {
		m := &maker{Rand: rand.New(rand.NewSource(int64(i))), rare: 9}
		list = append(list, m.tree(3+i%4))
	}
	return slices.DeleteFunc(list, func(n api.Node) bool { return tree.Check(n) != nil })
}

func TestP15_2TheNormalForm(t *testing.T) {
	list := treesToHold()
	smaller := 0
	for _, n := range list {
		x := form(t, n)
		if err := tree.Check(x); err != nil {
			t.Fatalf("the normal form of %s: %v", told(n), err)
		}
		if tree.Size(x) > tree.Size(n) || tree.Depth(x) > tree.Depth(n) {
			t.Fatalf("the normal form of %s, %s: size %d, depth %d", told(n), told(x), tree.Size(x), tree.Depth(x))
		}
		if again := form(t, x); told(again) != told(x) {
			t.Fatalf("the normal form of %s, of %s: %s", told(x), told(n), told(again))
		}
		if tree.Size(x) < tree.Size(n) {
			smaller++
		}
	}
	if len(list) < 6000 || smaller < 1900 {
		t.Errorf("only %d trees, %d that become smaller", len(list), smaller)
	}
}

// holdPieces holds that a tree and its normal form take the same pieces of a scene, with the same spans by the best parse of each.
func holdPieces(t *testing.T, n api.Node, x *scene.Scene) {
	t.Helper()
	e := form(t, n)
	for from := range x.Len() + 1 {
		want, err := reach.Ends(n, x, from)
		got, wrong := reach.Ends(e, x, from)
		if err != nil || wrong != nil || !slices.Equal(got, want) {
			t.Fatalf("the normal form of %s in %q from %d: %v, want %v (%v, %v)", told(n), x.Text(), from, got, want, wrong, err)
		}
		for _, to := range want {
			if got, want := spans(t, n, e, x, from, to), spans(t, n, n, x, from, to); !slices.Equal(got, want) {
				t.Fatalf("the normal form of %s in %q from %d to %d: %v, want %v", told(n), x.Text(), from, to, got, want)
			}
		}
	}
}

// spans answers the spans of all of n's groups by the best parse that t, which is n or its normal form, has of a piece.
func spans(test *testing.T, n, t api.Node, x *scene.Scene, from, to int) []api.Span {
	test.Helper()
	p, found, err := parses.Best(t, x, from, to)
	if err != nil || !found {
		test.Fatalf("Best of %s in %q from %d to %d: %v, %v", told(t), x.Text(), from, to, found, err)
	}
	list, ok := rank.Spans(t, x, p, tree.Groups(n))
	if !ok {
		test.Fatalf("Spans of %s in %q from %d to %d", told(t), x.Text(), from, to)
	}
	return list
}

func TestP15_3ByHand(t *testing.T) {
	a, b := leaf('a'), leaf('b')
	g := group(1, rep(alt(a, b), 0, -1))
	for _, c := range []struct {
		t    api.Node
		text string
		want []api.Span
	}{
		{seq(rep(alt(a, seq(a, b)), 0, -1), g), "aab", []api.Span{{From: 0, To: 3}, {From: 3, To: 3}}},
		{seq(rep(a, 1, 1), g), "aab", []api.Span{{From: 0, To: 3}, {From: 1, To: 3}}},
		{alt(alt(b, a), group(1, a)), "a", []api.Span{{From: 0, To: 1}, {From: -1, To: -1}}},
		{alt(alt(b, node(2)), group(1, a)), "a", []api.Span{{From: 0, To: 1}, {From: 0, To: 1}}},
		{rep(alt(node(1), group(1, a)), 0, -1), "", []api.Span{{From: 0, To: 0}, {From: -1, To: -1}}},
		{rep(group(1, bare(a, -1)), 0, -1), "", []api.Span{{From: 0, To: 0}, {From: 0, To: 0}}},
	} {
		x := scene.New(c.text, 0, 0)
		if got := spans(t, c.t, form(t, c.t), x, 0, len(c.text)); !slices.Equal(got, c.want) {
			t.Errorf("the normal form of %s in %q: %v, want %v", told(c.t), c.text, got, c.want)
		}
		holdPieces(t, c.t, x)
	}
}

func TestP15_3SmallPatterns(t *testing.T) {
	words := []string{"a", "b", "^", "$", "(a|ab)", "(a?)", "(", ")", "|", "*", "?", "{0}", "{1}", "{0,2}", "{2,}"}
	for i, n := range patterns(words, 4) {
		holdPieces(t, n, scene.New([]string{"aab", "ab", "", "aba"}[i%4], 0, 0))
		if i%4 == 0 {
			holdPieces(t, bared(n), scene.New("aab", 0, 0))
			holdPieces(t, n, scene.New("a\nab", api.Newline, i/4%4))
		}
	}
}

func TestP15_3RandomTrees(t *testing.T) {
	changed := 0
	for i := range 8000 {
		m := &maker{Rand: rand.New(rand.NewSource(int64(i))), numbers: i % 2 * 3, rare: i % 7}
		n := m.tree(3 + i%4)
		if tree.Check(n) != nil || tree.Size(n) > 400 {
			continue
		}
		if told(form(t, n)) != told(n) {
			changed++
		}
		var text []byte
		for range m.Intn(5) {
			text = append(text, "aab\n"[m.Intn(4)])
		}
		x := scene.New(string(text), api.Newline*m.Intn(2), m.Intn(4))
		if i%5 == 0 {
			x = x.Turned()
		}
		holdPieces(t, n, x)
	}
	if changed < 3000 {
		t.Errorf("only %d trees that aren't their normal form", changed)
	}
}
