package turn_test

import (
	"math"
	"slices"
	"testing"

	"trawl/api"
	"trawl/ere"
	"trawl/reach"
	"trawl/scene"
	"trawl/tree"
	"trawl/turn"
)

// hold holds Turn of any tree to the chapter, told a second time.
func hold(t *testing.T, n api.Node) {
	t.Helper()
	if got, want := told(turn.Turn(n)), toldTurned(n); got != want {
		t.Fatalf("Turn of %.200s: %.200s, want %.200s", told(n), got, want)
	}
}

// holdByHand holds Turn, and the test's own telling of it, to a tree that was laid by hand.
func holdByHand(t *testing.T, n, want api.Node) {
	t.Helper()
	if got := told(turn.Turn(n)); got != told(want) {
		t.Errorf("Turn of %s: %s, want %s", told(n), got, told(want))
	}
	if got := toldTurned(n); got != told(want) {
		t.Errorf("the test's own turned tree of %s: %s, want %s", told(n), got, told(want))
	}
}

func TestP16_1Examples(t *testing.T) {
	holdByHand(t, seq(node(api.KindBegin), leaf('a'), leaf('b')), seq(leaf('b'), leaf('a'), node(api.KindEnd)))
	holdByHand(t, api.Node{}, api.Node{})
	for p, q := range map[string]string{"^ab": "ba$", "(ab|c)*": "(ba|c)*", "": "", "x": "x", "^": "$", "$^^": "$$^", "(a(bc)d){2,5}e": "e(d(cb)a){2,5}", "abc|^d|e$": "cba|d$|^e", "[^a-c]x?y+": "y+x?[^a-c]"} {
		a, _, wrong := ere.Parse(p, 0)
		b, _, other := ere.Parse(q, 0)
		if wrong != nil || other != nil {
			t.Fatalf("%s, %s: %v, %v", p, q, wrong, other)
		}
		holdByHand(t, a, b)
		holdByHand(t, b, a)
	}
}

func TestP16_1ByHand(t *testing.T) {
	a, b, c, empty, begin, end := leaf('a'), leaf('b'), leaf('c'), node(api.KindEmpty), node(api.KindBegin), node(api.KindEnd)
	for _, v := range []struct{ t, want api.Node }{
		{empty, empty},
		{node(api.KindBytes), node(api.KindBytes)},
		{begin, end},
		{end, begin},
		{seq(a, b), seq(b, a)},
		{seq(a, b, c, empty), seq(empty, c, b, a)},
		{seq(a, seq(b, c)), seq(seq(c, b), a)},
		{seq(seq(a, b), alt(b, c), c), seq(c, alt(b, c), seq(b, a))},
		{alt(a, b, c), alt(a, b, c)},
		{alt(seq(a, b), begin), alt(seq(b, a), end)},
		{alt(alt(end, c), seq(a, alt(b, seq(c, a)))), alt(alt(begin, c), seq(alt(b, seq(a, c)), a))},
		{group(7, seq(a, b)), group(7, seq(b, a))},
		{seq(group(1, a), group(2, b)), seq(group(2, b), group(1, a))},
		{rep(seq(a, b), 0, 0), rep(seq(b, a), 0, 0)},
		{rep(seq(begin, b), 2, 5), rep(seq(b, end), 2, 5)},
		{bare(seq(a, group(999, seq(b, c))), -1), bare(seq(group(999, seq(c, b)), a), -1)},
	} {
		holdByHand(t, v.t, v.want)
		holdByHand(t, v.want, v.t)
	}
}

// Trees that are not in form: only what the chapter names is turned, wherever it stands.
func TestP16_1TreesNotInForm(t *testing.T) {
	a, b, c, begin, end := leaf('a'), leaf('b'), leaf('c'), node(api.KindBegin), node(api.KindEnd)
	full := func(kind int, subs ...api.Node) api.Node {
		return api.Node{Kind: kind, Set: api.Set{1, 2, 3, math.MaxUint64}, Subs: subs, Num: -4, Min: math.MinInt, Max: math.MaxInt, Bare: true}
	}
	holdByHand(t, seq(), seq())
	holdByHand(t, seq(begin), seq(end))
	holdByHand(t, full(api.KindSeq, a, b, c), full(api.KindSeq, c, b, a))
	holdByHand(t, full(api.KindBegin), full(api.KindEnd))
	holdByHand(t, full(api.KindEnd, a, b, begin), full(api.KindBegin, a, b, end))
	holdByHand(t, full(api.KindBegin, seq(a, b), c), full(api.KindEnd, seq(b, a), c))
	for _, kind := range []int{0, 1, 2, 6, 7, 8, 9, 13, 21, -1, -3, -4, -5, 256 + 3, 256 + 5, 1<<32 + 4, math.MaxInt, math.MinInt} {
		holdByHand(t, full(kind), full(kind))
		holdByHand(t, full(kind, a, begin, seq(a, end, b)), full(kind, a, end, seq(b, begin, a)))
		holdByHand(t, seq(a, full(kind, seq(b, c), a)), seq(full(kind, seq(c, b), a), a))
	}
}

func TestP16_1AnyTree(t *testing.T) {
	for _, n := range slices.Concat(someInForm(), someLoose()) {
		hold(t, n)
	}
	for n := range 40 {
		hold(t, row(n))
		hold(t, node(api.KindAlt, row(n).Subs...))
	}
}

// Trees deeper and greater than a right one may be.
func TestP16_1GreatTrees(t *testing.T) {
	a := leaf('a')
	for _, n := range []api.Node{
		row(100000), node(api.KindAlt, slices.Repeat([]api.Node{seq(a, leaf('b'))}, 20000)...),
		nest(65000, seq(a, node(api.KindBegin)), inGroup), nest(65000, a, behindA), nest(300, row(300), behindA),
		nest(65000, node(api.KindEnd), func(n api.Node) api.Node { return node(api.KindBegin, n) }),
	} {
		hold(t, n)
	}
}

// holdMemory holds that no two lists of an answer, no two answers, and none of them and what was handed in share memory, spare room too; and that an answer that is changed changes nothing else.
func holdMemory(t *testing.T, n api.Node) {
	t.Helper()
	before, want := told(n), toldTurned(clone(n))
	handed := slots(n.Subs)
	one, two := turn.Turn(n), turn.Turn(n)
	for at, times := range slots(one.Subs, two.Subs) {
		if times > 1 {
			t.Fatalf("Turn of %s: two lists of the answers share memory", told(n))
		}
		if handed[at] > 0 {
			t.Fatalf("Turn of %s: the answer shares memory with the tree", told(n))
		}
	}
	spoil(&one)
	if told(n) != before || told(two) != want || told(turn.Turn(n)) != want {
		t.Fatalf("%s became %s", before, told(n))
	}
}

// spoil changes all nodes of a tree, and lays others behind its lists.
func spoil(n *api.Node) {
	for i := range n.Subs {
		spoil(&n.Subs[i])
	}
	_ = append(n.Subs, node(99), node(99))
	n.Kind, n.Num, n.Bare = 77, 77, true
	n.Set[0]++
}

func TestP16_1NewMemory(t *testing.T) {
	for _, n := range slices.Concat(someInForm(), someLoose()) {
		holdMemory(t, n)
	}
}

// Trees whose lists have spare room, or share memory with one another.
func TestP16_1NewMemoryOfListsThatShare(t *testing.T) {
	shared := slices.Grow([]api.Node{leaf('a'), seq(leaf('b'), leaf('c')), node(api.KindBegin)}, 5)
	for kind := range 10 {
		holdMemory(t, node(kind, make([]api.Node, 0, 4)...))
		holdMemory(t, seq(leaf('a'), node(kind, make([]api.Node, 0, 4)...)))
		holdMemory(t, node(kind, shared...))
		holdMemory(t, node(kind, shared[:0]...))
		holdMemory(t, node(kind, node(api.KindSeq, shared...), node(api.KindSeq, shared[:2]...), node(api.KindEmpty, shared[:0]...)))
		holdMemory(t, seq(node(kind, shared...), node(kind, shared...), node(kind, shared[1:]...)))
	}
}

// bounds are trees as deep and as great as right ones may be, and ones that are a little more.
func bounds() []api.Node {
	a := leaf('a')
	return []api.Node{
		row(1999), row(2000), rep(row(998), 1, -1), rep(row(999), 2, 2), rep(row(5000), 0, 0), rep(rep(a, 255, 255), 7, 7), rep(rep(a, 255, 255), 8, 8),
		nest(199, a, inGroup), nest(200, a, inGroup), nest(199, a, behindA), nest(200, a, behindA), nest(197, rep(seq(a, a), 0, 0), inGroup), nest(196, rep(seq(a, a), 0, 0), inGroup),
		seq(a, nest(198, a, inGroup)), seq(nest(199, a, inGroup), a), seq(nest(150, rep(a, 2, 2), inGroup), nest(198, a, inGroup), a), seq(row(999), row(998)), seq(row(999), row(1000)),
		{}, seq(a), alt(a), group(0, a), group(1000, a), group(1, a, a), rep(a, 2, 1), rep(a, 0, 256), node(api.KindBegin, a), node(api.KindEnd, a, a), seq(nest(300, a, inGroup), row(3000), group(0, a)),
	}
}

func TestP16_2TurnedTwice(t *testing.T) {
	for _, n := range slices.Concat(someInForm(), someLoose(), bounds()) {
		if twice := turn.Turn(turn.Turn(n)); told(twice) != told(n) || !tree.Same(twice, n) {
			t.Fatalf("Turn of Turn of %s: %s", told(n), told(twice))
		}
	}
}

func TestP16_2RightSizeDepth(t *testing.T) {
	right, wrong := 0, 0
	for _, n := range slices.Concat(someInForm(), someLoose(), bounds()) {
		turned := turn.Turn(n)
		want := tree.Check(n)
		if got := tree.Check(turned); got != want {
			t.Fatalf("Check of Turn of %s: %v, want %v", told(n), got, want)
		}
		if want == nil {
			right++
		} else {
			wrong++
		}
		if tree.Size(turned) != tree.Size(n) || tree.Depth(turned) != tree.Depth(n) {
			t.Fatalf("Turn of %s: size %d, depth %d, want %d, %d", told(n), tree.Size(turned), tree.Depth(turned), tree.Size(n), tree.Depth(n))
		}
	}
	if right < 2000 || wrong < 2000 {
		t.Errorf("only %d right trees, %d that aren't", right, wrong)
	}
}

// pieces answers all pieces that a right tree takes in a scene.
func pieces(t *testing.T, n api.Node, x *scene.Scene) []api.Span {
	t.Helper()
	var list []api.Span
	for from := range x.Len() + 1 {
		ends, err := reach.Ends(n, x, from)
		if err != nil {
			t.Fatalf("Ends of %s in %q from %d: %v", told(n), x.Text(), from, err)
		}
		for _, to := range ends {
			list = append(list, api.Span{From: from, To: to})
		}
	}
	return list
}

// mirrored answers the pieces as they lie in the turned scene of n bytes, in the order of pieces.
func mirrored(list []api.Span, n int) []api.Span {
	var made []api.Span
	for _, s := range list {
		made = append(made, api.Span{From: n - s.To, To: n - s.From})
	}
	slices.SortFunc(made, func(a, b api.Span) int {
		if a.From != b.From {
			return a.From - b.From
		}
		return a.To - b.To
	})
	return made
}

// holdPieces holds that a right tree takes a piece just if its turned tree takes it in the turned scene.
func holdPieces(t *testing.T, n api.Node, x *scene.Scene) {
	t.Helper()
	want := mirrored(pieces(t, n, x), x.Len())
	if got := pieces(t, turn.Turn(n), x.Turned()); !slices.Equal(got, want) {
		t.Fatalf("Turn of %s in %q turned: %v, want %v", told(n), x.Text(), got, want)
	}
}

func TestP16_3ByHand(t *testing.T) {
	for _, c := range []struct {
		pattern, text  string
		cflags, eflags int
		want           []api.Span
	}{
		{"^ab", "abab", 0, 0, []api.Span{{From: 2, To: 4}}},
		{"^ab", "abab", 0, api.NotBol, nil},
		{"^ab", "abab", 0, api.NotEol, []api.Span{{From: 2, To: 4}}},
		{"ab$", "abab", 0, 0, []api.Span{{From: 0, To: 2}}},
		{"ab$", "abab", 0, api.NotEol, nil},
		{"ab", "abab", 0, 0, []api.Span{{From: 0, To: 2}, {From: 2, To: 4}}},
		{"ab+", "xabb", 0, 0, []api.Span{{From: 0, To: 3}, {From: 1, To: 3}}},
		{"^a|b$", "a\nb", api.Newline, 0, []api.Span{{From: 0, To: 1}, {From: 2, To: 3}}},
		{"^b", "a\nb", api.Newline, api.NotBol | api.NotEol, []api.Span{{From: 0, To: 1}}},
		{"(^|a)b", "bab", 0, 0, []api.Span{{From: 0, To: 2}, {From: 2, To: 3}}},
		{"(^|a){1,}", "a", 0, 0, []api.Span{{From: 0, To: 1}, {From: 1, To: 1}}},
		{"a$^b", "ab", 0, 0, nil},
		{"^$", "", 0, 0, []api.Span{{From: 0, To: 0}}},
		{"^", "", 0, api.NotBol, nil},
	} {
		n, _, err := ere.Parse(c.pattern, 0)
		if err != nil {
			t.Fatal(err)
		}
		x := scene.New(c.text, c.cflags, c.eflags)
		if got := pieces(t, turn.Turn(n), x.Turned()); !slices.Equal(got, c.want) {
			t.Errorf("Turn of %s in %q turned, flags %d and %d: %v, want %v", c.pattern, c.text, c.cflags, c.eflags, got, c.want)
		}
		holdPieces(t, n, x)
	}
}

func TestP16_3SmallTrees(t *testing.T) {
	for i, n := range small(3) {
		holdPieces(t, n, scene.New([]string{"aab", "ab", "", "ba", "abb"}[i%5], 0, i%4))
		if i%4 == 0 {
			holdPieces(t, n, scene.New("a\nab", api.Newline, i/4%4))
		}
	}
}

func TestP16_3SmallPatterns(t *testing.T) {
	words := []string{"a", "b", "^", "$", "(a|ab)", "(a?)", "(|b)", "(", ")", "|", "*", "{0}", "{2}", "{0,2}", "{2,}"}
	for i, n := range patterns(words, 4) {
		holdPieces(t, n, scene.New([]string{"aab", "ab", "", "aba"}[i%4], 0, i/4%4))
	}
}

func TestP16_3RandomTrees(t *testing.T) {
	tried := 0
	for i := range 6000 {
		m := newMaker(i)
		n := m.inForm(3 + i%4)
		if tree.Check(n) != nil || tree.Size(n) > 400 {
			continue
		}
		tried++
		text := make([]byte, m.Intn(7))
		if i%50 == 0 {
			text = make([]byte, api.MaxSubject)
		}
		for j := range text {
			text[j] = "aabb\n"[m.Intn(5)]
		}
		x := scene.New(string(text), api.Newline*m.Intn(2), m.Intn(4))
		if i%5 == 0 {
			x = x.Turned()
		}
		holdPieces(t, n, x)
	}
	if tried < 3000 {
		t.Errorf("only %d trees", tried)
	}
}
