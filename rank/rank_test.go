package rank_test

import (
	"fmt"
	"math"
	"math/rand"
	"slices"
	"strings"
	"testing"
	"time"

	"trawl/api"
	"trawl/ere"
	"trawl/rank"
	"trawl/scene"
	"trawl/tree"
)

// parsed answers the tree of an extended pattern.
func parsed(t *testing.T, p string) api.Node {
	t.Helper()
	n, _, err := ere.Parse(p, 0)
	if err != nil {
		t.Fatalf("%q: %v", p, err)
	}
	return n
}

// leaf is a parse without Subs.
func leaf(from, to int) api.Parse {
	return api.Parse{From: from, To: to}
}

// of is a parse of the Subs, one or more, one behind the other.
func of(subs ...api.Parse) api.Parse {
	return api.Parse{From: subs[0].From, To: subs[len(subs)-1].To, Subs: subs}
}

// pick is a parse of an alternative.
func pick(number int, sub api.Parse) api.Parse {
	return api.Parse{From: sub.From, To: sub.To, Pick: number, Subs: []api.Parse{sub}}
}

// keys are the keys of all parses of a list.
func keys(list []api.Parse) map[string]struct{} {
	made := map[string]struct{}{}
	for _, p := range list {
		made[key(p)] = struct{}{}
	}
	return made
}

// holdCheck holds Check of all candidates against the list of all parses.
func holdCheck(t *testing.T, n api.Node, x *scene.Scene, right map[string]struct{}, candidates []api.Parse) {
	t.Helper()
	for _, p := range candidates {
		_, want := right[key(p)]
		if got := rank.Check(n, x, p); got != want {
			t.Fatalf("Check(%v, %q, %s) = %v", n, x.Text(), key(p), got)
		}
	}
}

// hold holds Check against all parses of a right tree, and against what is near them, and Spans of each against the chapter's walk.
func hold(t *testing.T, n api.Node, x *scene.Scene) bool {
	t.Helper()
	list, ok := all(&n, x)
	if !ok || len(list) > 100 {
		return false
	}
	right := keys(list)
	if len(right) != len(list) {
		t.Fatalf("%v, %q: the model has a parse twice", n, x.Text())
	}
	for _, p := range list {
		holdCheck(t, n, x, right, []api.Parse{p})
		holdCheck(t, n, x, right, changes(p))
		got, ok := rank.Spans(n, x, p, 6)
		if want := spans(n, p, 6); !ok || !slices.Equal(got, want) {
			t.Fatalf("Spans(%v, %q, %s, 6) = %v, %v, want %v", n, x.Text(), key(p), got, ok, want)
		}
	}
	return true
}

func TestP12_1CheckByHand(t *testing.T) {
	for _, c := range []struct {
		p, s string
		at   api.Parse
		want bool
	}{
		{"a|ab", "ab", pick(1, of(leaf(0, 1), leaf(1, 2))), true},
		{"a|ab", "ab", pick(0, of(leaf(0, 1), leaf(1, 2))), false},
		{"a|ab", "ab", pick(0, leaf(0, 1)), true},
		{"a|ab", "ab", pick(2, leaf(0, 1)), false},
		{"a|ab", "ab", pick(-1, leaf(0, 1)), false},
		{"a|ab", "ab", leaf(0, 1), false},
		{"()", "", of(leaf(0, 0)), true},
		{"()", "", leaf(0, 0), false},
		{"()", "", of(leaf(0, 0), leaf(0, 0)), false},
		{"()", "", of(of(leaf(0, 0))), false},
		{"(a*)*", "", leaf(0, 0), true},
		{"(a*)*", "", of(of(leaf(0, 0))), true},
		{"(a*)*", "", of(of(of(leaf(0, 0)))), false},
		{"(a*)*", "", of(of(leaf(0, 0)), of(leaf(0, 0))), false},
		{"(a*)*", "aa", of(of(of(leaf(0, 1), leaf(1, 2)))), true},
		{"(a*)*", "aa", of(of(of(leaf(0, 1))), of(of(leaf(1, 2)))), true},
		{"(a*)*", "aa", of(of(leaf(0, 0)), of(of(leaf(0, 1), leaf(1, 2)))), false},
		{"(a*)*", "aa", of(of(of(leaf(0, 1), leaf(1, 2))), of(leaf(2, 2))), false},
		{"(a*)+", "", of(of(leaf(0, 0))), true},
		{"(a*)+", "", leaf(0, 0), false},
		{"(a*)+", "", of(of(leaf(0, 0)), of(leaf(0, 0))), false},
		{"(a*)+", "a", of(of(leaf(0, 0)), of(of(leaf(0, 1)))), true},
		{"(a*)+", "a", of(of(of(leaf(0, 1))), of(leaf(1, 1))), false},
		{"(a*){2}", "a", of(of(of(leaf(0, 1))), of(leaf(1, 1))), true},
		{"(a*){2}", "a", of(of(leaf(0, 0)), of(of(leaf(0, 1)))), true},
		{"(a*){2}", "a", of(of(of(leaf(0, 1)))), false},
		{"(a*){2,3}", "a", of(of(leaf(0, 0)), of(leaf(0, 0)), of(of(leaf(0, 1)))), true},
		{"(a*){2,3}", "a", of(of(leaf(0, 0)), of(of(leaf(0, 1))), of(leaf(1, 1))), false},
		{"(a*){0}", "", leaf(0, 0), true},
		{"(a*){0}", "", of(of(leaf(0, 0))), false},
		{"a{0,2}", "aaa", of(leaf(0, 1), leaf(1, 2)), true},
		{"a{0,2}", "aaa", of(leaf(0, 1), leaf(1, 2), leaf(2, 3)), false},
		{"ab", "ab", of(leaf(0, 1)), false},
		{"ab", "aab", of(leaf(0, 1), leaf(2, 3)), false},
		{"ab", "ab", api.Parse{From: 0, To: 1, Subs: []api.Parse{leaf(0, 1), leaf(1, 2)}}, false},
		{"a", "ba", leaf(1, 2), true},
		{"a", "ba", leaf(0, 1), false},
		{"a", "ba", leaf(2, 3), false},
		{"a", "ba", leaf(1, 1), false},
		{"a", "ba", api.Parse{From: 1, To: 2, Pick: 1}, false},
		{"^", "a", leaf(0, 0), true},
		{"^", "a", leaf(1, 1), false},
		{"^", "a", leaf(0, 1), false},
		{"$", "a", leaf(1, 1), true},
		{"$", "a", leaf(0, 0), false},
		{"$", "a", leaf(2, 2), false},
	} {
		if got := rank.Check(parsed(t, c.p), scene.New(c.s, 0, 0), c.at); got != c.want {
			t.Errorf("Check of %s in %q, %s: %v", c.p, c.s, key(c.at), got)
		}
	}
}

// A bare repeat has no round that is empty; not even a first one.
func TestP12_1CheckBare(t *testing.T) {
	for _, most := range []int{-1, 1, 2} {
		n := tree.Rep(tree.Rep(tree.Text("a"), 0, -1), 0, most)
		x := scene.New("a", 0, 0)
		round := of(leaf(0, 0))
		if !rank.Check(n, x, round) || !rank.Check(n, x, leaf(0, 0)) {
			t.Errorf("0 to %d, not bare", most)
		}
		n.Bare = true
		if rank.Check(n, x, round) || !rank.Check(n, x, leaf(0, 0)) || !rank.Check(n, x, of(of(leaf(0, 1)))) {
			t.Errorf("0 to %d, bare", most)
		}
	}
}

func TestP12_1SmallTrees(t *testing.T) {
	for _, s := range subjects("a\n", 2) {
		for _, x := range flagged(s) {
			for _, n := range append(leaves(), grown(leaves())...) {
				hold(t, n, x)
			}
		}
	}
}

func TestP12_1RepeatsOfSmallTrees(t *testing.T) {
	below := grown([]api.Node{{Kind: api.KindEmpty}, {Kind: api.KindEnd}, tree.Text("a")})
	held := 0
	for _, s := range []string{"", "a", "aa", "\na", "ba"} {
		for _, x := range []*scene.Scene{scene.New(s, 0, 0), scene.New(s, api.Newline, 3)} {
			for _, n := range below {
				for _, r := range repeats(n) {
					if hold(t, r, x) {
						held++
					}
				}
			}
		}
	}
	if held < 3000 {
		t.Errorf("only %d were held", held)
	}
}

func TestP12_1RandomTrees(t *testing.T) {
	r := rand.New(rand.NewSource(12))
	held := 0
	for range 4000 {
		n := random(r, 2+r.Intn(12))
		x := scene.New(text(r, 5), api.Newline*r.Intn(2), r.Intn(4))
		if r.Intn(4) == 0 {
			x = x.Turned()
		}
		if tree.Check(n) == nil && hold(t, n, x) {
			held++
		}
	}
	if held < 2500 {
		t.Errorf("only %d were held", held)
	}
}

// small are the values of the type with small numbers and at most so many Subs of a list: few are parses of anything.
func small(subs int, below []api.Parse) []api.Parse {
	lists := [][]api.Parse{nil}
	for _, p := range below {
		lists = append(lists, []api.Parse{p})
		for _, q := range below {
			if subs > 1 {
				lists = append(lists, []api.Parse{p, q})
			}
		}
	}
	var made []api.Parse
	for from := -1; from <= 2; from++ {
		for to := -1; to <= 2; to++ {
			for pick := -1; pick <= 2; pick++ {
				for _, list := range lists {
					made = append(made, api.Parse{From: from, To: to, Pick: pick, Subs: list})
				}
			}
		}
	}
	return made
}

func TestP12_1EverySmallValue(t *testing.T) {
	candidates := small(2, small(0, nil))
	below := []api.Node{{Kind: api.KindBegin}, tree.Text("a")}
	for _, s := range []string{"", "a", "aa"} {
		x := scene.New(s, 0, 0)
		for _, n := range append(grown(below), below...) {
			list, _ := all(&n, x)
			right, found := keys(list), 0
			for _, p := range candidates {
				if rank.Check(n, x, p) {
					found++
					if _, ok := right[key(p)]; !ok {
						t.Fatalf("Check(%v, %q, %s) = true", n, s, key(p))
					}
				}
			}
			want := 0
			for _, p := range list {
				// The candidates have no more Subs than two.
				if len(p.Subs) <= 2 {
					want++
				}
			}
			if found != want {
				t.Fatalf("Check(%v, %q) of %d values, want %d", n, s, found, want)
			}
		}
	}
}

// The parses of one tree are held against another one, and those of one scene against another one of the same length.
func TestP12_1OtherTreesAndScenes(t *testing.T) {
	var trees []api.Node
	for _, p := range []string{"a", "b", "ab", "a|b", "b|a", "a*", "a+", "a?", "(a)", "(a|b)*", "(^|a)b", "a$", "aa|a", "a{2}", "a{0,2}", "()", "()*", "($|a)*"} {
		trees = append(trees, parsed(t, p))
	}
	var scenes []*scene.Scene
	for _, s := range []string{"", "a", "ab", "aa", "a\n", "\nab"} {
		scenes = append(scenes, flagged(s)...)
	}
	var candidates []api.Parse
	known := map[string]bool{}
	for _, n := range trees {
		for _, x := range scenes {
			list, _ := all(&n, x)
			for _, p := range list {
				if !known[key(p)] {
					known[key(p)] = true
					candidates = append(candidates, p)
				}
			}
		}
	}
	for _, n := range trees {
		for _, x := range scenes {
			list, _ := all(&n, x)
			holdCheck(t, n, x, keys(list), candidates)
		}
	}
}

func TestP12_1EveryByte(t *testing.T) {
	for b := range 256 {
		s := string([]byte{byte(b)})
		in := tree.Text(s)
		var out api.Set
		for i := range out {
			out[i] = ^in.Set[i]
		}
		for _, flags := range []int{0, api.Newline, api.Icase} {
			x := scene.New(s, flags, 0)
			if !rank.Check(in, x, leaf(0, 1)) || rank.Check(tree.Bytes(out), x, leaf(0, 1)) {
				t.Errorf("byte %d, flags %d: not by its own set, or by the set without it", b, flags)
			}
		}
	}
}

// Numbers that are no place of the scene are places of no piece, the empty one and what wraps round too.
func TestP12_1NoPlace(t *testing.T) {
	far := []int{math.MinInt, math.MinInt + 1, math.MinInt32, -64, -1, 4, 5, 64, 1 << 32, math.MaxInt32, math.MaxInt - 1, math.MaxInt}
	x := scene.New("aaa", api.Newline, 0)
	for _, n := range append(leaves(), tree.Rep(tree.Text("a"), 0, -1), tree.Rep(tree.Text("a"), 0, 0), tree.Group(1, api.Node{Kind: api.KindEmpty})) {
		for _, from := range append(far, 0, 3) {
			for _, to := range append(far, from, from+1) {
				if 0 <= from && from <= to && to <= 3 {
					continue
				}
				for _, p := range []api.Parse{leaf(from, to), of(leaf(from, to))} {
					if rank.Check(n, x, p) {
						t.Fatalf("Check(%v, %s)", n, key(p))
					}
					if list, ok := rank.Spans(n, x, p, 1); ok || list != nil {
						t.Fatalf("Spans(%v, %s) = %v, %v", n, key(p), list, ok)
					}
				}
			}
		}
	}
}

// stars is a repeat without end of another one, and so on.
func stars(levels int) api.Node {
	n := tree.Text("a")
	for range levels {
		n = tree.Rep(n, 0, -1)
	}
	return n
}

// nested is a parse with one Sub in each, as many in one another.
func nested(levels, from, to int) api.Parse {
	p := leaf(from, to)
	for range levels {
		p = of(p)
	}
	return p
}

// A tree that isn't right has no parse, be the parse as its nodes are.
func TestP12_1WrongTrees(t *testing.T) {
	x := scene.New("a", 0, 0)
	a := tree.Text("a")
	group := func(num int) api.Node { return tree.Group(num, a) }
	spoiled := a
	spoiled.Num = 1
	barely := tree.Rep(a, 1, 1)
	barely.Bare = true
	for _, c := range []struct {
		n    api.Node
		p    api.Parse
		want bool
	}{
		{group(1), of(leaf(0, 1)), true},
		{group(999), of(leaf(0, 1)), true},
		{group(0), of(leaf(0, 1)), false},
		{group(1000), of(leaf(0, 1)), false},
		{group(-1), of(leaf(0, 1)), false},
		{spoiled, leaf(0, 1), false},
		{barely, of(leaf(0, 1)), false},
		{tree.Rep(a, 2, 1), of(leaf(0, 1)), false},
		{tree.Rep(a, 0, 256), of(leaf(0, 1)), false},
		{tree.Rep(a, -1, 1), of(leaf(0, 1)), false},
		{tree.Rep(a, 1, -2), of(leaf(0, 1)), false},
		{tree.Rep(group(0), 0, 0), leaf(0, 0), false},
		{tree.Rep(group(1), 0, 0), leaf(0, 0), true},
		{api.Node{}, leaf(0, 0), false},
		{api.Node{Kind: 9}, leaf(0, 0), false},
		{api.Node{Kind: -1}, leaf(0, 0), false},
		{api.Node{Kind: api.KindSeq}, leaf(0, 0), false},
		{api.Node{Kind: api.KindSeq, Subs: []api.Node{a}}, of(leaf(0, 1)), false},
		{api.Node{Kind: api.KindAlt, Subs: []api.Node{a}}, of(leaf(0, 1)), false},
		{api.Node{Kind: api.KindRep, Max: -1}, leaf(0, 0), false},
		{tree.Alt(a, tree.Group(0, a)), of(leaf(0, 1)), false},
		{stars(199), nested(199, 0, 1), true},
		{stars(200), nested(200, 0, 1), false},
		{tree.Rep(tree.Rep(a, 0, 255), 0, 3), nested(2, 0, 1), true},
		{tree.Rep(tree.Rep(a, 0, 255), 0, 4), nested(2, 0, 1), false},
	} {
		if got := rank.Check(c.n, x, c.p); got != c.want {
			t.Errorf("Check(%v, %s) = %v", c.n, key(c.p), got)
		}
		if list, ok := rank.Spans(c.n, x, c.p, 999); ok != c.want || (list == nil) == c.want {
			t.Errorf("Spans(%v, %s) = %v, %v", c.n, key(c.p), list, ok)
		}
	}
}

// What has more below it than its tree has is no parse, whatever lies there; a right one is known however many rounds it has.
func TestP12_1GreatParses(t *testing.T) {
	const many = 100000
	x := scene.New(strings.Repeat("ab", many), 0, 0)
	n := parsed(t, "((a)|b)*")
	rounds := make([]api.Parse, 2*many)
	for i := range rounds {
		if i%2 == 0 {
			rounds[i] = of(pick(0, of(leaf(i, i+1))))
		} else {
			rounds[i] = of(pick(1, leaf(i, i+1)))
		}
	}
	whole := of(rounds...)
	if !rank.Check(n, x, whole) {
		t.Error("not a parse")
	}
	if list, ok := rank.Spans(n, x, whole, 2); !ok || fmt.Sprint(list) != "[{0 200000} {199999 200000} {-1 -1}]" {
		t.Errorf("Spans: %v, %v", list, ok)
	}
	for _, at := range []int{0, 1, many, 2*many - 1} {
		kept := rounds[at]
		for _, p := range []api.Parse{leaf(at, at+1), of(rounds[at]), pick(1, kept.Subs[0]), of(slices.Clone(rounds)...)} {
			rounds[at] = p
			if rank.Check(n, x, whole) {
				t.Errorf("a parse with round %d as %d Subs", at, len(p.Subs))
			}
		}
		rounds[at] = kept
	}
	deep := nested(60000, 0, 1)
	for _, n := range []api.Node{n, tree.Text("a"), stars(199), tree.Rep(tree.Text("a"), 0, 0)} {
		if rank.Check(n, x, deep) {
			t.Error("a parse deeper than its tree")
		}
	}
	if rank.Compare(deep, nested(60000, 0, 1)) != 0 || rank.Compare(deep, nested(60001, 0, 1)) != 1 {
		t.Error("Compare of deep ones")
	}
}

// Below a repeat that is never gone through a right tree may have what would be too great elsewhere.
func TestP12_1NeverGoneThrough(t *testing.T) {
	great := tree.Text("a")
	for range 60 {
		great = tree.Rep(great, 255, 255)
	}
	x := scene.New("a", 0, 0)
	n := tree.Seq(tree.Rep(great, 0, 0), tree.Text("a"))
	if !rank.Check(n, x, of(leaf(0, 0), leaf(0, 1))) || rank.Check(n, x, of(of(leaf(0, 0)), leaf(0, 1))) {
		t.Error("no round of it is a parse, one is none")
	}
}

func TestP12_1CompareByHand(t *testing.T) {
	low, high := leaf(math.MinInt, math.MinInt), leaf(math.MaxInt, math.MaxInt)
	// Each is better than all that stand behind it.
	list := []api.Parse{
		low,
		{From: -2, To: 0},
		{From: -1, To: math.MaxInt, Pick: math.MaxInt},
		{From: -1, To: math.MinInt, Pick: math.MinInt},
		{From: 0, To: math.MaxInt},
		{From: 0, To: 3, Pick: 9},
		{From: 0, To: 2, Pick: math.MinInt},
		{From: 0, To: 2, Pick: -1},
		{From: 0, To: 2, Subs: []api.Parse{leaf(-1, 0)}},
		{From: 0, To: 2, Subs: []api.Parse{leaf(0, 2), leaf(0, 2)}},
		{From: 0, To: 2, Subs: []api.Parse{leaf(0, 2)}},
		{From: 0, To: 2, Subs: []api.Parse{of(leaf(0, 1), leaf(1, 1)), leaf(9, 9)}},
		{From: 0, To: 2, Subs: []api.Parse{of(leaf(0, 1)), leaf(9, 9), leaf(1, 3)}},
		{From: 0, To: 2, Subs: []api.Parse{leaf(0, 1), leaf(1, 3)}},
		{From: 0, To: 2, Subs: []api.Parse{leaf(0, 1), leaf(1, 2), leaf(2, 2)}},
		{From: 0, To: 2, Subs: []api.Parse{leaf(0, 1), leaf(1, 2)}},
		{From: 0, To: 2, Subs: []api.Parse{leaf(0, 1)}},
		{From: 0, To: 2, Subs: []api.Parse{{From: 0, To: 1, Pick: 1}, leaf(1, 2), leaf(2, 2), leaf(2, 2)}},
		{From: 0, To: 2, Subs: []api.Parse{leaf(0, 0), leaf(0, 9), leaf(0, 9), leaf(0, 9)}},
		{From: 0, To: 2, Subs: []api.Parse{leaf(1, 9)}},
		{From: 0, To: 2},
		{From: 0, To: 2, Pick: 1, Subs: []api.Parse{leaf(-9, 9)}},
		{From: 0, To: 1, Subs: []api.Parse{leaf(-9, 9)}},
		{From: 0, To: -1},
		{From: 1, To: 9},
		high,
	}
	for i, a := range list {
		for j, b := range list {
			want := 0
			if i < j {
				want = -1
			}
			if i > j {
				want = 1
			}
			if got := rank.Compare(a, b); got != want || order(a, b) != want {
				t.Errorf("Compare(%s, %s) = %d, want %d", key(a), key(b), got, want)
			}
		}
	}
}

func TestP12_1CompareAnyValues(t *testing.T) {
	values := small(1, small(0, nil)[:20])
	for _, a := range values {
		for _, b := range values {
			if got, want := rank.Compare(a, b), order(a, b); got != want {
				t.Fatalf("Compare(%s, %s) = %d, want %d", key(a), key(b), got, want)
			}
		}
	}
}

// An empty list of Subs and a nil one are the same, and so are two with other room behind them.
func TestP12_1EmptyLists(t *testing.T) {
	none, empty := leaf(0, 1), leaf(0, 1)
	empty.Subs = make([]api.Parse, 0, 4)
	if rank.Compare(none, empty) != 0 || rank.Compare(of(none), of(empty)) != 0 || rank.Compare(of(empty), empty) != -1 {
		t.Error("Compare")
	}
	x, n := scene.New("a", 0, 0), tree.Text("a")
	n.Subs = []api.Node{}
	if !rank.Check(n, x, empty) || !rank.Check(tree.Rep(n, 1, 1), x, of(empty)) {
		t.Error("Check")
	}
}

// The spans by the best of all parses of the whole subject.
func TestP12_1SpansByTheBest(t *testing.T) {
	for _, c := range []struct{ p, s, want string }{
		{"a|ab", "ab", "[{0 2}]"},
		{"(a|ab)(c|bcd)(d*)", "abcd", "[{0 4} {0 2} {2 3} {3 4}]"},
		{"(a*)*", "", "[{0 0} {0 0}]"},
		{"(a*)*", "aa", "[{0 2} {0 2}]"},
		{"(a*)+", "", "[{0 0} {0 0}]"},
		{"((a)|b)*", "ab", "[{0 2} {1 2} {-1 -1}]"},
		{"((a)|b)*", "ba", "[{0 2} {1 2} {1 2}]"},
		{"((a)|(b))*", "aba", "[{0 3} {2 3} {2 3} {-1 -1}]"},
		{"(a*)(ab)*(b*)", "abb", "[{0 3} {0 1} {-1 -1} {1 3}]"},
		{"(ab*){2}", "abbab", "[{0 5} {3 5}]"},
		{"(a|ab)(bcd|c)(d|.*)", "abcd", "[{0 4} {0 2} {2 3} {3 4}]"},
		{"(a)|(a)", "a", "[{0 1} {0 1} {-1 -1}]"},
		{"(())*", "", "[{0 0} {0 0} {0 0}]"},
		{"(a?){3}", "aa", "[{0 2} {2 2}]"},
		{"(a*)(a*)", "aa", "[{0 2} {0 2} {2 2}]"},
		{"(x)?(a{0}(b))*", "bb", "[{0 2} {-1 -1} {1 2} {1 2}]"},
		{"(((a)|(b))(c)?)*", "acb", "[{0 3} {2 3} {2 3} {-1 -1} {2 3} {-1 -1}]"},
		{"^(a)$", "a", "[{0 1} {0 1}]"},
	} {
		n := parsed(t, c.p)
		x := scene.New(c.s, 0, 0)
		list := over(&n, x, 0, len(c.s))
		got, ok := rank.Spans(n, x, best(list), tree.Groups(n))
		if !ok || fmt.Sprint(got) != c.want {
			t.Errorf("%s in %q: %v, %v, want %s", c.p, c.s, got, ok, c.want)
		}
		if slices.MinFunc(list, rank.Compare).To != len(c.s) || key(slices.MinFunc(list, rank.Compare)) != key(best(list)) {
			t.Errorf("%s in %q: another best one", c.p, c.s)
		}
	}
}

func TestP12_1TwoParses(t *testing.T) {
	n, x := parsed(t, "(a|ab)(c|bcd)(d*)"), scene.New("abcd", 0, 0)
	one := of(of(pick(0, leaf(0, 1))), of(pick(1, of(leaf(1, 2), leaf(2, 3), leaf(3, 4)))), of(leaf(4, 4)))
	two := of(of(pick(1, of(leaf(0, 1), leaf(1, 2)))), of(pick(0, leaf(2, 3))), of(of(leaf(3, 4))))
	if !rank.Check(n, x, one) || !rank.Check(n, x, two) || rank.Compare(one, two) != 1 || rank.Compare(two, one) != -1 {
		t.Error("the second one is better")
	}
	list, ok := rank.Spans(n, x, two, 3)
	if !ok || fmt.Sprint(list) != "[{0 4} {0 2} {2 3} {3 4}]" {
		t.Errorf("Spans: %v, %v", list, ok)
	}
	list, ok = rank.Spans(n, x, one, 3)
	if !ok || fmt.Sprint(list) != "[{0 4} {0 1} {1 4} {4 4}]" {
		t.Errorf("Spans: %v, %v", list, ok)
	}
}

// Numbers that are there more than once: the last time counts, and a group takes back what those in it told ahead of it, even what it never goes through.
func TestP12_1SpansOfEqualNumbers(t *testing.T) {
	a, b := tree.Text("a"), tree.Text("b")
	x := scene.New("ab", 0, 0)
	ga, gb := of(leaf(0, 1)), of(leaf(1, 2))
	for _, c := range []struct {
		n    api.Node
		p    api.Parse
		want string
	}{
		{tree.Seq(tree.Group(1, a), tree.Group(1, b)), of(ga, gb), "[{0 2} {1 2} {-1 -1}]"},
		{tree.Group(1, tree.Seq(tree.Group(1, a), b)), of(of(ga, leaf(1, 2))), "[{0 2} {0 1} {-1 -1}]"},
		{tree.Group(1, tree.Seq(tree.Rep(tree.Group(1, a), 0, 0), a)), of(of(leaf(0, 0), leaf(0, 1))), "[{0 1} {0 1} {-1 -1}]"},
		{tree.Seq(tree.Group(1, a), tree.Group(2, tree.Seq(tree.Rep(tree.Group(1, a), 0, 0), b))), of(ga, of(of(leaf(1, 1), leaf(1, 2)))), "[{0 2} {-1 -1} {1 2}]"},
		{tree.Seq(tree.Group(1, a), tree.Group(2, tree.Alt(tree.Group(1, a), b))), of(ga, of(pick(1, leaf(1, 2)))), "[{0 2} {-1 -1} {1 2}]"},
		{tree.Seq(tree.Group(1, a), tree.Alt(tree.Group(1, a), b)), of(ga, pick(1, leaf(1, 2))), "[{0 2} {0 1} {-1 -1}]"},
		{tree.Seq(tree.Group(1, a), tree.Group(2, tree.Group(1, b))), of(ga, of(gb)), "[{0 2} {1 2} {1 2}]"},
		{tree.Seq(tree.Group(2, tree.Group(1, a)), tree.Group(1, b)), of(of(ga), gb), "[{0 2} {1 2} {0 1}]"},
	} {
		got, ok := rank.Spans(c.n, x, c.p, 2)
		if !ok || fmt.Sprint(got) != c.want || !slices.Equal(got, spans(c.n, c.p, 2)) {
			t.Errorf("Spans(%v, %s) = %v, %v, want %s", c.n, key(c.p), got, ok, c.want)
		}
	}
}

func TestP12_1HowManyGroups(t *testing.T) {
	n := tree.Seq(tree.Group(7, tree.Text("a")), tree.Group(999, tree.Text("b")))
	x := scene.New("ab", 0, 0)
	p := of(of(leaf(0, 1)), of(leaf(1, 2)))
	for groups := range 1000 {
		got, ok := rank.Spans(n, x, p, groups)
		if !ok || !slices.Equal(got, spans(n, p, groups)) {
			t.Fatalf("Spans of %d groups: %v, %v", groups, got, ok)
		}
	}
	for _, groups := range []int{-1, -2, -64, 1000, 1001, 1024, math.MinInt, math.MaxInt, math.MinInt32, math.MaxInt32, 1 << 32, 1<<32 + 3, -1 << 32} {
		if got, ok := rank.Spans(n, x, p, groups); ok || got != nil {
			t.Errorf("Spans of %d groups: %v, %v", groups, got, ok)
		}
	}
	for _, groups := range []int{-1, 0, 3, 999, 1000} {
		if got, ok := rank.Spans(n, x, leaf(0, 2), groups); ok || got != nil {
			t.Errorf("Spans of %d groups of no parse: %v, %v", groups, got, ok)
		}
	}
}

func TestP12_1NewMemory(t *testing.T) {
	n, x := parsed(t, "((a)|b)*"), scene.New("ab", 0, 0)
	p := of(of(pick(0, of(leaf(0, 1)))), of(pick(1, leaf(1, 2))))
	tree1, parse1 := tree.Copy(n), key(p)
	one, _ := rank.Spans(n, x, p, 2)
	two, _ := rank.Spans(n, x, p, 2)
	whole := one[:cap(one)]
	for i := range whole {
		whole[i] = api.Span{From: 99, To: 99}
	}
	three, _ := rank.Spans(n, x, p, 2)
	if !slices.Equal(two, spans(n, p, 2)) || !slices.Equal(two, three) {
		t.Errorf("a list that was written on changed another one: %v, %v", two, three)
	}
	rank.Check(n, x, p)
	rank.Compare(p, of(p))
	if !tree.Same(n, tree1) || key(p) != parse1 || x.Text() != "ab" {
		t.Error("an argument was changed")
	}
}

// A group that holds many others must not take them all back again for each of its rounds.
func TestP12_1ManyRoundsOfManyGroups(t *testing.T) {
	var picks []api.Node
	for num := range 990 {
		picks = append(picks, tree.Group(2+num, tree.Text("a")))
	}
	n := tree.Rep(tree.Group(1, tree.Alt(picks...)), 0, -1)
	const many = 200000
	rounds := make([]api.Parse, many)
	for i := range rounds {
		rounds[i] = of(pick(i%990, of(leaf(i, i+1))))
	}
	x := scene.New(strings.Repeat("a", many), 0, 0)
	began := time.Now()
	list, ok := rank.Spans(n, x, of(rounds...), 999)
	if took := time.Since(began); took > 20*time.Second {
		t.Fatalf("it took %v", took)
	}
	last := api.Span{From: many - 1, To: many}
	want := slices.Repeat([]api.Span{{From: -1, To: -1}}, 1000)
	want[0], want[1], want[2+(many-1)%990] = api.Span{From: 0, To: many}, last, last
	if !ok || !slices.Equal(list, want) {
		t.Errorf("%v, %v", list, ok)
	}
}

func TestP12_2Order(t *testing.T) {
	values := small(1, []api.Parse{leaf(0, 0), leaf(0, 1), leaf(1, 1)})
	r := rand.New(rand.NewSource(13))
	r.Shuffle(len(values), func(i, j int) { values[i], values[j] = values[j], values[i] })
	values = values[:150]
	for i, a := range values {
		for j, b := range values {
			told := rank.Compare(a, b)
			if told != -rank.Compare(b, a) || (told == 0) != (i == j) {
				t.Fatalf("Compare(%s, %s) = %d, turned %d", key(a), key(b), told, rank.Compare(b, a))
			}
			for _, c := range values {
				if told == -1 && rank.Compare(b, c) == -1 && rank.Compare(a, c) != -1 {
					t.Fatalf("%s, %s, %s: not passed on", key(a), key(b), key(c))
				}
			}
		}
	}
}

// All parses of a tree come into one order, whichever they came in.
func TestP12_2OrderOfParses(t *testing.T) {
	r := rand.New(rand.NewSource(14))
	held := 0
	for range 1500 {
		n := random(r, 3+r.Intn(12))
		if tree.Check(n) != nil {
			continue
		}
		list, ok := all(&n, scene.New(text(r, 6), api.Newline, 0))
		if !ok || len(list) < 3 {
			continue
		}
		held++
		want := slices.SortedFunc(slices.Values(list), order)
		r.Shuffle(len(list), func(i, j int) { list[i], list[j] = list[j], list[i] })
		slices.SortFunc(list, rank.Compare)
		for i := range list {
			if key(list[i]) != key(want[i]) {
				t.Fatalf("%v: %s at %d, want %s", n, key(list[i]), i, key(want[i]))
			}
			if i > 0 && rank.Compare(list[i-1], list[i]) != -1 {
				t.Fatalf("%v: %s isn't ahead of %s", n, key(list[i-1]), key(list[i]))
			}
		}
	}
	if held < 500 {
		t.Errorf("only %d were held", held)
	}
}

// within answers, of each group's number, the numbers of the groups in it.
func within(t api.Node, found map[int][]int) {
	if t.Kind == api.KindGroup {
		found[t.Num] = numbers(t.Subs[0])
	}
	for _, sub := range t.Subs {
		within(sub, found)
	}
}

func TestP12_2GroupsInGroups(t *testing.T) {
	r := rand.New(rand.NewSource(15))
	held := 0
	for range 6000 {
		n := renumbered(random(r, 4+r.Intn(14)))
		x := scene.New(text(r, 6), 0, 0)
		inner := map[int][]int{}
		within(n, inner)
		if tree.Check(n) != nil {
			continue
		}
		list, ok := all(&n, x)
		if !ok {
			continue
		}
		for _, p := range list[:min(len(list), 50)] {
			told, ok := rank.Spans(n, x, p, 20)
			if !ok {
				t.Fatalf("%v, %s: no spans", n, key(p))
			}
			for outer, nums := range inner {
				for _, num := range nums {
					if told[num].From == -1 || told[outer].From == -1 {
						continue
					}
					held++
					if told[num].From < told[outer].From || told[num].To > told[outer].To {
						t.Fatalf("%v, %s: group %d at %v, in group %d at %v", n, key(p), num, told[num], outer, told[outer])
					}
				}
			}
		}
	}
	if held < 1000 {
		t.Errorf("only %d were held", held)
	}
}
