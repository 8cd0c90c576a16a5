package posit_test

import (
	"errors"
	"math"
	"slices"
	"testing"

	"trawl/api"
	"trawl/ere"
	"trawl/expand"
	"trawl/posit"
	"trawl/reach"
	"trawl/scene"
	"trawl/tree"
)

// of answers the posits of a right tree.
func of(t *testing.T, n api.Node) api.Posits {
	t.Helper()
	p, err := posit.Of(n)
	if err != nil {
		t.Fatalf("Of %s: %v", told(n), err)
	}
	return p
}

// parsed answers the tree of an extended pattern.
func parsed(t *testing.T, p string) api.Node {
	t.Helper()
	n, _, err := ere.Parse(p, 0)
	if err != nil {
		t.Fatalf("%s: %v", p, err)
	}
	return n
}

// isOnly tells whether an error is this sentinel and no other one, without a place or a number.
func isOnly(err, want error) bool {
	for _, other := range []error{api.ErrTree, api.ErrDeep, api.ErrTooBig, api.ErrArgument, api.ErrNest, api.ErrLong} {
		if errors.Is(err, other) != (other == want) {
			return false
		}
	}
	var fault *api.Fault
	var listed *api.Listed
	return !errors.As(err, &fault) && !errors.As(err, &listed)
}

// fails holds Of for a tree that isn't right: the error, and the zero posits beside it.
func fails(t *testing.T, name string, n api.Node, want error) {
	t.Helper()
	p, err := posit.Of(n)
	if !isOnly(err, want) {
		t.Errorf("Of %s fails with %v, want %v", name, err, want)
	}
	if told(p) != told(api.Posits{}) {
		t.Errorf("Of %s answers %s beside an error", name, told(p))
	}
}

// hold holds Of against the chapter told a second time.
func hold(t *testing.T, n api.Node) {
	t.Helper()
	x, err := expand.Expand(n)
	if err != nil {
		fails(t, told(n), n, err)
		return
	}
	if got, want := told(of(t, n)), told(wanted(x)); got != want {
		t.Fatalf("Of %s: %s, want %s", told(n), got, want)
	}
}

// posits that are laid by hand: sets of one byte each, then the rest.
func posits(text string, null int, first, last []api.Edge, follow ...[]api.Edge) api.Posits {
	p := api.Posits{Null: null, First: first, Last: last, Follow: follow}
	for i := range len(text) {
		p.Sets = append(p.Sets, only(text[i]))
	}
	return p
}

// holdByHand holds Of, and the test's own posits, against posits laid by hand.
func holdByHand(t *testing.T, n api.Node, want api.Posits) {
	t.Helper()
	if got := of(t, n); told(got) != told(want) {
		t.Errorf("Of %s: %s, want %s", told(n), told(got), told(want))
	}
	x, err := expand.Expand(n)
	if err != nil || told(wanted(x)) != told(want) {
		t.Errorf("the test's own posits of %s: %s, want %s", told(n), told(wanted(x)), told(want))
	}
}

func TestP17_1Examples(t *testing.T) {
	holdByHand(t, parsed(t, "a(^|b)c"), posits("abc", 0, edges(0, 15), edges(2, 15), edges(1, 15, 2, 10), edges(2, 15), nil))
	holdByHand(t, parsed(t, "(ab)*$"), posits("ab", 12, edges(0, 15), edges(1, 12), edges(1, 15), edges(0, 15)))
	holdByHand(t, parsed(t, "^$"), posits("", 8, nil, nil))
	holdByHand(t, parsed(t, "a?"), posits("a", 15, edges(0, 15), edges(0, 15), nil))
}

// The rows of the chapter's table, one by one.
func TestP17_1TheTable(t *testing.T) {
	a, b, c, empty, begin, end := leaf('a'), leaf('b'), leaf('c'), node(api.KindEmpty), node(api.KindBegin), node(api.KindEnd)
	holdByHand(t, empty, posits("", 15, nil, nil))
	holdByHand(t, begin, posits("", 10, nil, nil))
	holdByHand(t, end, posits("", 12, nil, nil))
	holdByHand(t, a, posits("a", 0, edges(0, 15), edges(0, 15), nil))
	holdByHand(t, group(999, a), posits("a", 0, edges(0, 15), edges(0, 15), nil))
	holdByHand(t, group(1, begin), posits("", 10, nil, nil))
	holdByHand(t, alt(begin, end), posits("", 14, nil, nil))
	holdByHand(t, alt(a, end, b), posits("ab", 12, edges(0, 15, 1, 15), edges(0, 15, 1, 15), nil, nil))
	holdByHand(t, seq(begin, end), posits("", 8, nil, nil))
	holdByHand(t, seq(empty, begin), posits("", 10, nil, nil))
	holdByHand(t, seq(a, b), posits("ab", 0, edges(0, 15), edges(1, 15), edges(1, 15), nil))
	holdByHand(t, seq(begin, a, end), posits("a", 0, edges(0, 10), edges(0, 12), nil))
	holdByHand(t, seq(begin, end, a), posits("a", 0, edges(0, 8), edges(0, 15), nil))
	holdByHand(t, seq(a, begin, end), posits("a", 0, edges(0, 15), edges(0, 8), nil))
	holdByHand(t, seq(a, alt(begin, end), b), posits("ab", 0, edges(0, 15), edges(1, 15), edges(1, 14), nil))
	holdByHand(t, seq(a, alt(empty, b), c), posits("abc", 0, edges(0, 15), edges(2, 15), edges(1, 15, 2, 15), edges(2, 15), nil))
	holdByHand(t, rep(a, 0, 1), posits("a", 15, edges(0, 15), edges(0, 15), nil))
	holdByHand(t, rep(a, 0, -1), posits("a", 15, edges(0, 15), edges(0, 15), edges(0, 15)))
	holdByHand(t, bare(begin, 1), posits("", 15, nil, nil))
	holdByHand(t, rep(end, 0, -1), posits("", 15, nil, nil))
	holdByHand(t, node(api.KindBytes), api.Posits{Sets: []api.Set{{}}, First: edges(0, 15), Last: edges(0, 15), Follow: [][]api.Edge{nil}})
}

// Ways from several nodes to one position; ways that meet to none are no edge.
func TestP17_1Follow(t *testing.T) {
	for _, c := range []struct {
		pattern string
		want    api.Posits
	}{
		{"(^a)*", posits("a", 15, edges(0, 10), edges(0, 15), edges(0, 10))},
		{"(^a$)*", posits("a", 15, edges(0, 10), edges(0, 12), edges(0, 8))},
		{"(a$)*^", posits("a", 10, edges(0, 15), edges(0, 8), edges(0, 12))},
		{"a$^b", posits("ab", 0, edges(0, 15), edges(1, 15), edges(1, 8), nil)},
		{"(^a|b$)*", posits("ab", 15, edges(0, 10, 1, 15), edges(0, 15, 1, 12), edges(0, 10, 1, 15), edges(0, 8, 1, 12))},
		{"(a?b?)*", posits("ab", 15, edges(0, 15, 1, 15), edges(0, 15, 1, 15), edges(0, 15, 1, 15), edges(0, 15, 1, 15))},
		{"(a^b|c)*d", posits("abcd", 0, edges(0, 15, 2, 15, 3, 15), edges(3, 15), edges(1, 10), edges(0, 15, 2, 15, 3, 15), edges(0, 15, 2, 15, 3, 15), nil)},
		// From a to b by the row 12, by the repeat 8: joined 12.
		{"(a?$b?^)*", posits("ab", 15, edges(0, 15, 1, 12), edges(0, 8, 1, 10), edges(0, 8, 1, 12), edges(0, 10, 1, 8))},
		{"((^a)*b?)*", posits("ab", 15, edges(0, 10, 1, 15), edges(0, 15, 1, 15), edges(0, 10, 1, 15), edges(0, 10, 1, 15))},
		{"(^a)+(b|$)", posits("aab", 0, edges(0, 10), edges(0, 12, 1, 12, 2, 15), edges(1, 10, 2, 15), edges(1, 10, 2, 15), nil)},
	} {
		holdByHand(t, parsed(t, c.pattern), c.want)
	}
}

// Positions are those of the expansion, numbered from the left.
func TestP17_1Counts(t *testing.T) {
	for _, c := range []struct {
		pattern string
		want    api.Posits
	}{
		{"(ab){2}", posits("abab", 0, edges(0, 15), edges(3, 15), edges(1, 15), edges(2, 15), edges(3, 15), nil)},
		{"a{2,}", posits("aaa", 0, edges(0, 15), edges(1, 15, 2, 15), edges(1, 15), edges(2, 15), edges(2, 15))},
		{"a{0,3}", posits("aaa", 15, edges(0, 15, 1, 15, 2, 15), edges(0, 15, 1, 15, 2, 15), edges(1, 15, 2, 15), edges(2, 15), nil)},
		{"a{0}b", posits("b", 0, edges(0, 15), edges(0, 15), nil)},
		{"a{1}", posits("a", 0, edges(0, 15), edges(0, 15), nil)},
		{"(^){0,2}", posits("", 15, nil, nil)},
		{"(^){1,2}", posits("", 10, nil, nil)},
		{"(^){0}a", posits("a", 0, edges(0, 15), edges(0, 15), nil)},
	} {
		holdByHand(t, parsed(t, c.pattern), c.want)
	}
}

func TestP17_1EverySet(t *testing.T) {
	for b := range 256 {
		one := leaf(byte(b))
		others := one
		for i := range others.Set {
			others.Set[i] = math.MaxUint64 &^ one.Set[i]
		}
		p := of(t, rep(seq(one, others), 2, 2))
		if want := []api.Set{one.Set, others.Set, one.Set, others.Set}; !slices.Equal(p.Sets, want) {
			t.Errorf("the sets of byte %d and of all others: %x", b, p.Sets)
		}
	}
}

func TestP17_1SmallTrees(t *testing.T) {
	for _, n := range small(3) {
		hold(t, n)
	}
}

func TestP17_1ManyTrees(t *testing.T) {
	for _, n := range someInForm() {
		hold(t, n)
	}
}

func TestP17_1AnyTree(t *testing.T) {
	right, wrong := 0, 0
	for i := range 20000 {
		n := newMaker(i).loose(1 + i%4)
		if tree.Check(n) == nil {
			right++
		} else {
			wrong++
		}
		hold(t, n)
	}
	if right < 50 || wrong < 10000 {
		t.Errorf("only %d right trees, %d others", right, wrong)
	}
}

// full are edges to all positions from the first one up to the last one, in all ways.
func full(first, last int) []api.Edge {
	var list []api.Edge
	for p := first; p <= last; p++ {
		list = append(list, api.Edge{To: p, Ways: 15})
	}
	return list
}

// Trees as great and as deep as may be.
func TestP17_1AtTheBounds(t *testing.T) {
	a := leaf('a')
	repeated := func(n api.Node, times int) []api.Node { return slices.Repeat([]api.Node{n}, times) }
	for name, c := range map[string]struct {
		t           api.Node
		n, null     int
		first, last []api.Edge
		follow      func(p int) []api.Edge
	}{
		"a row":                  {row(1999), 1999, 0, full(0, 0), full(1998, 1998), func(p int) []api.Edge { return full(p+1, min(p+1, 1998)) }},
		"a choice":               {alt(repeated(a, 1999)...), 1999, 0, full(0, 1998), full(0, 1998), func(int) []api.Edge { return nil }},
		"a repeated choice":      {starred(alt(repeated(a, 1998)...)), 1998, 15, full(0, 1997), full(0, 1997), func(int) []api.Edge { return full(0, 1997) }},
		"what may be in a row":   {seq(repeated(rep(a, 0, 1), 999)...), 999, 15, full(0, 998), full(0, 998), func(p int) []api.Edge { return full(p+1, 998) }},
		"repeats in one another": {nest(198, alt(repeated(a, 1801)...), starred), 1801, 15, full(0, 1800), full(0, 1800), func(int) []api.Edge { return full(0, 1800) }},
		"groups in one another":  {nest(199, a, inGroup), 1, 0, full(0, 0), full(0, 0), func(int) []api.Edge { return nil }},
		"anchors in a row":       {seq(append(repeated(node(api.KindBegin), 1998), a)...), 1, 0, edges(0, 10), full(0, 0), func(int) []api.Edge { return nil }},
	} {
		p := of(t, c.t)
		if len(p.Sets) != c.n || len(p.Follow) != c.n || p.Null != c.null || !slices.Equal(p.First, c.first) || !slices.Equal(p.Last, c.last) {
			t.Fatalf("%s: %d sets, Follow of %d, Null %d, %d firsts, %d lasts", name, len(p.Sets), len(p.Follow), p.Null, len(p.First), len(p.Last))
		}
		for i, got := range p.Follow {
			if !slices.Equal(got, c.follow(i)) {
				t.Fatalf("%s: Follow of %d is %v", name, i, got)
			}
		}
		if posit.Check(p) != nil {
			t.Errorf("%s: not in form", name)
		}
	}
}

func TestP17_1TreesNotRight(t *testing.T) {
	a := leaf('a')
	for name, n := range map[string]api.Node{
		"the zero Node": {}, "kind 9": node(9), "Seq of one": seq(a), "Alt of none": alt(), "Group 0": group(0, a), "Group 1000": group(1000, a),
		"Rep 2 to 1": rep(a, 2, 1), "Rep 0 to 256": rep(a, 0, 256), "Rep of none": node(api.KindRep), "Begin with a Sub": node(api.KindBegin, a),
		"Bytes with a Sub": node(api.KindBytes, a), "Rep 0 to 0 of a zero Node": rep(api.Node{}, 0, 0), "a bare Rep of 1": {Kind: api.KindRep, Min: 1, Max: 1, Bare: true, Subs: []api.Node{a}},
	} {
		fails(t, name, n, api.ErrTree)
		fails(t, name+" deep within", seq(a, nest(300, n, inGroup), row(3000)), api.ErrTree)
	}
	for _, n := range []api.Node{nest(200, a, inGroup), nest(198, rep(a, 2, 3), inGroup), nest(65000, a, starred), seq(nest(200, a, inGroup), row(3000))} {
		fails(t, "a tree too deep", n, api.ErrDeep)
	}
	for _, n := range []api.Node{row(2000), rep(row(999), 2, 2), rep(rep(a, 255, 255), 8, 8), nest(90, a, func(n api.Node) api.Node { return rep(n, 255, -1) })} {
		fails(t, "a tree too great", n, api.ErrTooBig)
	}
	if p := of(t, rep(row(5000), 0, 0)); told(p) != told(api.Posits{Null: 15}) {
		t.Errorf("0 to 0 of a great tree: %s", told(p))
	}
}

// room notes where each list of edges, each list of lists and each list of sets lies, spare room too, and counts each place.
type room struct {
	edges map[*api.Edge]int
	lists map[*[]api.Edge]int
	sets  map[*api.Set]int
}

func (r room) add(p api.Posits) {
	count(r.sets, p.Sets)
	count(r.lists, p.Follow)
	for _, list := range append([][]api.Edge{p.First, p.Last}, p.Follow...) {
		count(r.edges, list)
	}
}

func count[E any](found map[*E]int, list []E) {
	whole := list[:cap(list)]
	for i := range whole {
		found[&whole[i]]++
	}
}

func (r room) shared() bool {
	for _, n := range r.edges {
		if n > 1 {
			return true
		}
	}
	for _, n := range r.lists {
		if n > 1 {
			return true
		}
	}
	for _, n := range r.sets {
		if n > 1 {
			return true
		}
	}
	return false
}

// spoil changes all of posits.
func spoil(p api.Posits) {
	for i := range p.Sets {
		p.Sets[i] = api.Set{1, 2, 3, 4}
	}
	for i, list := range append([][]api.Edge{p.First, p.Last}, p.Follow...) {
		for j := range list {
			list[j] = api.Edge{To: -i, Ways: -j}
		}
		_ = append(list, api.Edge{To: -5, Ways: 99})
	}
	for i := range p.Follow {
		p.Follow[i] = nil
	}
}

func TestP17_1NewMemory(t *testing.T) {
	for _, n := range someInForm() {
		if tree.Check(n) != nil {
			continue
		}
		before := told(n)
		one, two := of(t, n), of(t, n)
		want := told(two)
		r := room{map[*api.Edge]int{}, map[*[]api.Edge]int{}, map[*api.Set]int{}}
		r.add(one)
		r.add(two)
		if r.shared() {
			t.Fatalf("Of %s: lists share memory", told(n))
		}
		spoil(one)
		if told(n) != before || told(two) != want || told(of(t, n)) != want {
			t.Fatalf("%s: changed by a change of the answer", before)
		}
	}
}

func TestP17_1CheckChangesNothing(t *testing.T) {
	for i := range 500 {
		m := newMaker(i)
		p := m.spoilt(m.posits())
		before := told(p)
		first := posit.Check(p)
		if again := posit.Check(p); told(p) != before || again != first {
			t.Fatalf("Check of %s: %v, then %v; now %s", before, first, again, told(p))
		}
	}
}

// holdCheck holds Check for any posits.
func holdCheck(t *testing.T, p api.Posits, right bool) {
	t.Helper()
	err := posit.Check(p)
	if right && err != nil {
		t.Errorf("Check of %s: %v", told(p), err)
	}
	if !right && !isOnly(err, api.ErrTree) {
		t.Errorf("Check of %s: %v, want ErrTree", told(p), err)
	}
	if formed(p) != right {
		t.Errorf("the test's own words of %s: %v", told(p), !right)
	}
}

func TestP17_1CheckOfNumbers(t *testing.T) {
	for _, null := range []int{0, 1, 7, 8, 15} {
		holdCheck(t, posits("", null, nil, nil), true)
		holdCheck(t, posits("a", null, nil, nil, nil), true)
	}
	for _, null := range []int{-1, 16, 17, 31, -16, 256, 1 << 32, math.MaxInt, math.MinInt} {
		holdCheck(t, posits("", null, nil, nil), false)
		holdCheck(t, posits("a", null, edges(0, 15), edges(0, 15), edges(0, 15)), false)
	}
}

func TestP17_1CheckOfLengths(t *testing.T) {
	holdCheck(t, api.Posits{}, true)
	holdCheck(t, posits("", 0, []api.Edge{}, []api.Edge{}, [][]api.Edge{}...), true)
	for sets := range 6 {
		for lists := range 6 {
			p := api.Posits{Sets: make([]api.Set, sets), Follow: make([][]api.Edge, lists)}
			holdCheck(t, p, sets == lists)
			p.First = edges(5, 1)
			holdCheck(t, p, false)
		}
	}
}

// Each list of edges in turn, with whatever edges.
func TestP17_1CheckOfEdges(t *testing.T) {
	good := [][]api.Edge{nil, edges(0, 1), edges(1, 15), edges(2, 7), edges(0, 15, 1, 1), edges(0, 8, 2, 8), edges(1, 2, 2, 1), edges(0, 3, 1, 2, 2, 1)}
	bad := [][]api.Edge{
		edges(0, 0), edges(0, 16), edges(0, -1), edges(0, math.MaxInt), edges(0, math.MinInt), edges(1, 31), edges(2, 256),
		edges(3, 1), edges(-1, 1), edges(4, 15), edges(math.MaxInt, 1), edges(math.MinInt, 1), edges(256, 1), edges(1<<32, 1),
		edges(0, 1, 0, 2), edges(2, 1, 2, 1), edges(1, 1, 0, 1), edges(2, 1, 0, 1), edges(0, 1, 2, 1, 1, 1), edges(1, 1, 2, 1, 0, 1), edges(0, 1, 1, 1, 1, 1), edges(0, 1, 1, 0), edges(0, 1, 1, 1, 2, 16), edges(0, 1, 1, 1, 2, 1, 3, 1),
	}
	for place := range 5 {
		for i, list := range slices.Concat(good, bad) {
			lists := [][]api.Edge{nil, edges(0, 15, 2, 1), edges(2, 3), nil, edges(0, 1, 1, 2, 2, 3)}
			lists[place] = list
			holdCheck(t, posits("abc", 3, lists[0], lists[1], lists[2:]...), i < len(good))
		}
	}
}

func TestP17_1CheckOfAnyPosits(t *testing.T) {
	right, wrong := 0, 0
	for i := range 20000 {
		m := newMaker(i)
		p := m.posits()
		holdCheck(t, p, true)
		for range 1 + m.Intn(2) {
			p = m.spoilt(p)
		}
		if formed(p) {
			right++
		} else {
			wrong++
		}
		holdCheck(t, p, formed(p))
	}
	if right < 3000 || wrong < 3000 {
		t.Errorf("only %d in form, %d not", right, wrong)
	}
}

func TestP17_2InForm(t *testing.T) {
	a, tried := leaf('a'), 0
	list := slices.Concat(small(3), someInForm(), []api.Node{row(1999), row(2000), nest(199, a, inGroup), starred(alt(rep(a, 0, 255), row(200))), rep(rep(a, 7, 7), 255, 255), nest(66, a, func(n api.Node) api.Node { return rep(n, 1, -1) })})
	for least := range 15 {
		for most := -1; most < 15; most++ {
			list = append(list, rep(rep(a, 0, 3), least, most), rep(seq(rep(a, 2, -1), node(api.KindEnd)), least, most), bare(rep(a, 1, 1), most))
		}
	}
	for _, n := range list {
		x, err := expand.Expand(n)
		if err != nil {
			continue
		}
		tried++
		p := of(t, n)
		if posit.Check(p) != nil || !formed(p) {
			t.Fatalf("Of %s: not in form: %s", told(n), told(p))
		}
		if len(p.Sets) != leaves(x) {
			t.Fatalf("Of %s: %d positions, want %d", told(n), len(p.Sets), leaves(x))
		}
	}
	if tried < 20000 {
		t.Errorf("only %d trees", tried)
	}
}

func TestP17_2HowMany(t *testing.T) {
	for pattern, want := range map[string]int{
		"": 0, "a": 1, "^$": 0, "abc": 3, "a{0}": 0, "a{1}": 1, "a{255}": 255, "a{3,}": 4, "a{3,5}": 5, "a{0,255}": 255, "(a|b|[cd]){4}": 12, "((ab){2}c){3}": 15, "((ab){0,2}c){3,}": 20, "a+": 2, "a*": 1, "(a{2}){0}": 0,
	} {
		if p := of(t, parsed(t, pattern)); len(p.Sets) != want || len(p.Follow) != want {
			t.Errorf("Of %s: %d sets, Follow of %d, want %d", pattern, len(p.Sets), len(p.Follow), want)
		}
	}
}

// holdPieces holds that the positions of a right tree lead over just the pieces that it takes.
func holdPieces(t *testing.T, n api.Node, x *scene.Scene) {
	t.Helper()
	p := of(t, n)
	for from := range x.Len() + 1 {
		want, err := reach.Ends(n, x, from)
		if err != nil {
			t.Fatalf("Ends of %s: %v", told(n), err)
		}
		if got := over(p, x, from); !slices.Equal(got, want) {
			t.Fatalf("Of %s in %q from %d: leads to %v, want %v", told(n), x.Text(), from, got, want)
		}
	}
}

func TestP17_3ByHand(t *testing.T) {
	for _, c := range []struct {
		pattern, text  string
		cflags, eflags int
		from           int
		want           []int
	}{
		{"a(^|b)c", "abc", 0, 0, 0, []int{3}},
		{"a(^|b)c", "ac", 0, 0, 0, nil},
		{"(ab)*$", "abab", 0, 0, 0, []int{4}},
		{"(ab)*$", "abab", 0, api.NotEol, 0, nil},
		{"(ab)*$", "abab", 0, 0, 4, []int{4}},
		{"^$", "", 0, 0, 0, []int{0}},
		{"^$", "", 0, api.NotBol, 0, nil},
		{"^$", "\n", api.Newline, 0, 1, []int{1}},
		{"(^a[^b])*", "a\na\nb", api.Newline, 0, 0, []int{0, 2, 4}},
		{"(^a[^b])*", "a\na\nb", 0, 0, 0, []int{0, 2}},
		{"a*", "baa", 0, 0, 1, []int{1, 2, 3}},
		{"(^|a){1,}", "a", 0, api.NotBol, 0, []int{1}},
	} {
		n := parsed(t, c.pattern)
		x := scene.New(c.text, c.cflags, c.eflags)
		if got := over(of(t, n), x, c.from); !slices.Equal(got, c.want) {
			t.Errorf("Of %s in %q, flags %d and %d, from %d: leads to %v, want %v", c.pattern, c.text, c.cflags, c.eflags, c.from, got, c.want)
		}
		holdPieces(t, n, x)
	}
}

func TestP17_3SmallTrees(t *testing.T) {
	for i, n := range small(3) {
		holdPieces(t, n, scene.New([]string{"aab", "ab", "", "ba", "abb"}[i%5], 0, i%4))
		if i%4 == 0 {
			holdPieces(t, n, scene.New("a\nab", api.Newline, i/4%4))
		}
	}
}

func TestP17_3SmallPatterns(t *testing.T) {
	words := []string{"a", "[b\n]", "^", "$", "(a|ab)", "(^|b)", "(", ")", "|", "*", "{0}", "{2}", "{0,2}", "{2,}"}
	for i, n := range patterns(words, 4) {
		holdPieces(t, n, scene.New([]string{"aab", "a\nb", "", "\naba"}[i%4], api.Newline*(i/4%2), i/8%4))
	}
}

func TestP17_3RandomTrees(t *testing.T) {
	tried := 0
	for i := range 6000 {
		m := newMaker(i)
		n := m.inForm(3 + i%4)
		if tree.Check(n) != nil || tree.Size(n) > 400 {
			continue
		}
		tried++
		text := make([]byte, m.Intn(7))
		if i%50 == 0 {
			text = make([]byte, api.MaxSubject)
		}
		for j := range text {
			text[j] = "aabb\n"[m.Intn(5)]
		}
		x := scene.New(string(text), api.Newline*m.Intn(2), m.Intn(4))
		if i%5 == 0 {
			x = x.Turned()
		}
		holdPieces(t, n, x)
	}
	if tried < 3000 {
		t.Errorf("only %d trees", tried)
	}
}
