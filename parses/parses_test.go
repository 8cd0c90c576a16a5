package parses_test

import (
	"iter"
	"math"
	"math/rand"
	"slices"
	"strings"
	"testing"
	"time"

	"trawl/api"
	"trawl/fault"
	"trawl/parses"
	"trawl/rank"
	"trawl/reach"
	"trawl/scene"
	"trawl/tree"
)

// all answers the iterator over a right tree's parses of a piece.
func all(t *testing.T, n api.Node, x *scene.Scene, from, to int) iter.Seq[api.Parse] {
	t.Helper()
	seq, err := parses.All(n, x, from, to)
	if err != nil || seq == nil {
		t.Fatalf("All(%v, %q, %d, %d): %v", n, x.Text(), from, to, err)
	}
	return seq
}

// first answers the first parses of an iterator, so many at most, and tells each.
func first(seq iter.Seq[api.Parse], most int) []string {
	var list []string
	for p := range seq {
		list = append(list, told(p))
		if len(list) == most {
			break
		}
	}
	return list
}

// count answers what Count does of a right tree.
func count(t *testing.T, n api.Node, x *scene.Scene, from, to int) int {
	t.Helper()
	got, err := parses.Count(n, x, from, to)
	if err != nil {
		t.Fatalf("Count(%v, %q, %d, %d): %v", n, x.Text(), from, to, err)
	}
	return got
}

// enough is how many parses of one piece are gone over for a test.
const enough = 500

// hold holds all three calls for a right tree and a piece against how many parses there are: what All tells are parses, each better than the next one, so there is none twice; with as many as there are none is left out.
func hold(t *testing.T, n api.Node, x *scene.Scene, from, to int) {
	t.Helper()
	want := ways([]api.Node{n}, x, from, to)
	if got := count(t, n, x, from, to); got != min(want, api.MaxWays) {
		t.Fatalf("Count(%v, %q, %d, %d) = %d, want %d", n, x.Text(), from, to, got, want)
	}
	best, ok, err := parses.Best(n, x, from, to)
	if err != nil || ok != (want > 0) || !ok && told(best) != "0-0" {
		t.Fatalf("Best(%v, %q, %d, %d) = %s, %v, %v; there are %d", n, x.Text(), from, to, told(best), ok, err, want)
	}
	number := 0
	last := best
	for p := range all(t, n, x, from, to) {
		if p.From != from || p.To != to || !rank.Check(n, x, p) {
			t.Fatalf("All(%v, %q, %d, %d): %s is no parse", n, x.Text(), from, to, told(p))
		}
		if rank.Compare(last, p) != -min(number, 1) {
			t.Fatalf("All(%v, %q, %d, %d): %s, number %d, behind %s", n, x.Text(), from, to, told(p), number, told(last))
		}
		last = p
		number++
		if number == enough {
			break
		}
	}
	if number != min(want, enough) {
		t.Fatalf("All(%v, %q, %d, %d): %d parses, want %d", n, x.Text(), from, to, number, want)
	}
}

// holdPieces holds the calls for all pieces of a scene.
func holdPieces(t *testing.T, n api.Node, x *scene.Scene) {
	t.Helper()
	for from := range x.Len() + 1 {
		for to := from; to <= x.Len(); to++ {
			hold(t, n, x, from, to)
		}
	}
}

func TestP13_1AllByHand(t *testing.T) {
	for _, c := range []struct {
		p, s string
		want []string
	}{
		{"a", "a", []string{"0-1"}},
		{"a", "b", nil},
		{"a", "", nil},
		{"()", "", []string{"0-0[0-0]"}},
		{"^", "", []string{"0-0"}},
		{"a|ab", "ab", []string{"0-2/1[0-2[0-1 1-2]]"}},
		{"b|a|a|c|.", "a", []string{"0-1/1[0-1]", "0-1/2[0-1]", "0-1/4[0-1]"}},
		{"(a|ab)(c|bcd)(d*)", "abcd", []string{
			"0-4[0-2[0-2/1[0-2[0-1 1-2]]] 2-3[2-3[2-3]] 3-4[3-4[3-4]]]",
			"0-4[0-1[0-1[0-1]] 1-4[1-4/1[1-4[1-2 2-3 3-4]]] 4-4[4-4]]",
		}},
		{"a*", "", []string{"0-0"}},
		{"a*", "aa", []string{"0-2[0-1 1-2]"}},
		{"(a*)*", "", []string{"0-0[0-0[0-0]]", "0-0"}},
		{"(a*)?", "", []string{"0-0[0-0[0-0]]", "0-0"}},
		{"(a*)*", "aa", []string{"0-2[0-2[0-2[0-1 1-2]]]", "0-2[0-1[0-1[0-1]] 1-2[1-2[1-2]]]"}},
		{"(a*)+", "", []string{"0-0[0-0[0-0]]"}},
		{"(a*)+", "a", []string{"0-1[0-1[0-1[0-1]]]", "0-1[0-0[0-0] 0-1[0-1[0-1]]]"}},
		{"(|)*", "", []string{"0-0[0-0[0-0[0-0]]]", "0-0[0-0[0-0/1[0-0]]]", "0-0"}},
		{"(()?)?", "", []string{"0-0[0-0[0-0[0-0[0-0]]]]", "0-0[0-0[0-0]]", "0-0"}},
		{"(b|){2}", "", []string{"0-0[0-0[0-0/1[0-0]] 0-0[0-0/1[0-0]]]"}},
		{"(a?){2}", "a", []string{"0-1[0-1[0-1[0-1]] 1-1[1-1]]", "0-1[0-0[0-0] 0-1[0-1[0-1]]]"}},
		{"(a?){1,2}", "a", []string{"0-1[0-1[0-1[0-1]]]", "0-1[0-0[0-0] 0-1[0-1[0-1]]]"}},
		{"(a?){0,2}", "a", []string{"0-1[0-1[0-1[0-1]]]"}},
		{"(a{1,2}){0,2}", "aaa", []string{
			"0-3[0-2[0-2[0-1 1-2]] 2-3[2-3[2-3]]]",
			"0-3[0-1[0-1[0-1]] 1-3[1-3[1-2 2-3]]]",
		}},
		{"(a?){0}", "", []string{"0-0"}},
		{"(a?){0}", "a", nil},
		{"a{2}", "aa", []string{"0-2[0-1 1-2]"}},
		{"a{2}", "aaa", nil},
		{"a{3,}", "aaaa", []string{"0-4[0-1 1-2 2-3 3-4]"}},
		{"a?a*", "aa", []string{"0-2[0-1[0-1] 1-2[1-2]]", "0-2[0-0 0-2[0-1 1-2]]"}},
		{"a*a?", "aa", []string{"0-2[0-2[0-1 1-2] 2-2]", "0-2[0-1[0-1] 1-2[1-2]]"}},
		{"(a|b)*|ab", "ab", []string{"0-2[0-2[0-1[0-1[0-1]] 1-2[1-2/1[1-2]]]]", "0-2/1[0-2[0-1 1-2]]"}},
		{"(a|a)*", "aa", []string{
			"0-2[0-1[0-1[0-1]] 1-2[1-2[1-2]]]",
			"0-2[0-1[0-1[0-1]] 1-2[1-2/1[1-2]]]",
			"0-2[0-1[0-1/1[0-1]] 1-2[1-2[1-2]]]",
			"0-2[0-1[0-1/1[0-1]] 1-2[1-2/1[1-2]]]",
		}},
		{"(a|a|ab)(b|)", "ab", []string{
			"0-2[0-2[0-2/2[0-2[0-1 1-2]]] 2-2[2-2/1[2-2]]]",
			"0-2[0-1[0-1[0-1]] 1-2[1-2[1-2]]]",
			"0-2[0-1[0-1/1[0-1]] 1-2[1-2[1-2]]]",
		}},
		{"^(^|a)$", "a", []string{"0-1[0-0 0-1[0-1/1[0-1]] 1-1]"}},
		{"a^b", "ab", nil},
	} {
		x := scene.New(c.s, 0, 0)
		n := parsed(t, c.p)
		if got := first(all(t, n, x, 0, len(c.s)), -1); !slices.Equal(got, c.want) {
			t.Errorf("All of %s over %q: %q, want %q", c.p, c.s, got, c.want)
		}
		best, ok, err := parses.Best(n, x, 0, len(c.s))
		if err != nil || ok != (len(c.want) > 0) || ok && told(best) != c.want[0] {
			t.Errorf("Best of %s over %q: %s, %v, %v", c.p, c.s, told(best), ok, err)
		}
		if got := count(t, n, x, 0, len(c.s)); got != len(c.want) {
			t.Errorf("Count of %s over %q: %d, want %d", c.p, c.s, got, len(c.want))
		}
	}
}

// A bare repeat has no round that is empty, not even a single one.
func TestP13_1BareByHand(t *testing.T) {
	for _, most := range []int{-1, 1, 2, 9} {
		n := tree.Rep(tree.Rep(tree.Text("a"), 0, -1), 0, most)
		outer := n
		outer.Bare = true
		for _, c := range []struct {
			n    api.Node
			s    string
			want []string
		}{
			{n, "", []string{"0-0[0-0]", "0-0"}},
			{outer, "", []string{"0-0"}},
			{bared(n), "", []string{"0-0"}},
			{outer, "a", []string{"0-1[0-1[0-1]]"}},
			{tree.Rep(outer, 0, most), "", []string{"0-0[0-0]", "0-0"}},
			{tree.Rep(outer, 2, 3), "", []string{"0-0[0-0 0-0]"}},
		} {
			if got := first(all(t, c.n, scene.New(c.s, 0, 0), 0, len(c.s)), -1); !slices.Equal(got, c.want) {
				t.Errorf("All of %v over %q: %q, want %q", c.n, c.s, got, c.want)
			}
		}
	}
}

// A piece within a subject: its own places count, and the anchors are those of the scene.
func TestP13_1PiecesWithin(t *testing.T) {
	lines := scene.New("b\naab", api.Newline, 0)
	for _, c := range []struct {
		p        string
		x        *scene.Scene
		from, to int
		want     []string
	}{
		{"a*", lines, 2, 4, []string{"2-4[2-3 3-4]"}},
		{"a*", lines, 3, 4, []string{"3-4[3-4]"}},
		{"a*", lines, 4, 4, []string{"4-4"}},
		{"a*", lines, 5, 5, []string{"5-5"}},
		{"a*", lines, 2, 5, nil},
		{"^a*", lines, 2, 4, []string{"2-4[2-2 2-4[2-3 3-4]]"}},
		{"^a*", lines, 3, 4, nil},
		{"b$", lines, 0, 1, []string{"0-1[0-1 1-1]"}},
		{"b$", lines, 4, 5, []string{"4-5[4-5 5-5]"}},
		{"b$", scene.New("b\naab", api.Newline, api.NotEol), 4, 5, nil},
		{"^b", scene.New("b\naab", api.Newline, api.NotBol), 0, 1, nil},
		{"^a", scene.New("b\naab", 0, 0), 2, 3, nil},
		{"^b", lines.Turned(), 0, 1, []string{"0-1[0-0 0-1]"}},
		{"^b", lines.Turned(), 4, 5, []string{"4-5[4-4 4-5]"}},
		{"(a|a)", lines, 3, 4, []string{"3-4[3-4[3-4]]", "3-4[3-4/1[3-4]]"}},
	} {
		if got := first(all(t, parsed(t, c.p), c.x, c.from, c.to), -1); !slices.Equal(got, c.want) {
			t.Errorf("All of %s over %q from %d to %d: %q, want %q", c.p, c.x.Text(), c.from, c.to, got, c.want)
		}
	}
}

func TestP13_1SmallPatterns(t *testing.T) {
	words := []string{"a", "b", "^", "$", "()", "(a?)", "(", ")", "|", "*", "?", "+", "{2}", "{0,2}", "{1,3}", "{2,}"}
	list := patterns(words, 4)
	if len(list) < 8000 {
		t.Fatalf("only %d patterns", len(list))
	}
	for i, n := range list {
		for _, s := range []string{"", "a", "aa", "ab"} {
			hold(t, n, scene.New(s, 0, 0), 0, len(s))
		}
		if i%4 == 0 {
			holdPieces(t, bared(n), scene.New("aab", 0, 0))
			holdPieces(t, n, scene.New("a\na", api.Newline, i/4%4))
		}
	}
}

func TestP13_1RandomPatterns(t *testing.T) {
	r := rand.New(rand.NewSource(13))
	some := 0
	for i := range 6000 {
		n := parsed(t, random(r, 2+r.Intn(7)))
		if tree.Size(n) > 300 {
			continue
		}
		if i%3 == 0 {
			n = bared(n)
		}
		x := scene.New(text(r, 5), api.Newline*r.Intn(2), r.Intn(4))
		if i%5 == 0 {
			x = x.Turned()
		}
		holdPieces(t, n, x)
		if count(t, n, x, 0, x.Len()) > 1 {
			some++
		}
	}
	if some < 500 {
		t.Errorf("only %d had more than one parse", some)
	}
}

func TestP13_1EveryByte(t *testing.T) {
	for b := range 256 {
		s := string([]byte{byte(b)})
		in := tree.Text(s)
		var out api.Set
		for i := range out {
			out[i] = ^in.Set[i]
		}
		x := scene.New(s, api.Icase|api.Newline, 0)
		if count(t, in, x, 0, 1) != 1 || count(t, tree.Bytes(out), x, 0, 1) != 0 {
			t.Errorf("byte %d: not by its own set, or by the set without it", b)
		}
	}
}

func TestP13_1Counts(t *testing.T) {
	for _, c := range []struct {
		p    string
		n    int
		want int
	}{
		{"(a*)(a*)", 4, 5},
		{"(a*)(a*)", 63, 64},
		{"(a*)(a*)(a*)", 63, 65 * 64 / 2},
		{"(a*)(a*)(a*)(a*)", 63, 66 * 65 * 64 / 6},
		{"(a|a)*", 3, 8},
		{"(a|a){19}", 19, 1 << 19},
		{"(a|a){20}", 20, api.MaxWays},
		{"(a|a)*", 63, api.MaxWays},
		{"(a*)*", 0, 2},
		{"(a*)*", 20, 1 << 19},
		{"(a*)*", 21, api.MaxWays},
		{"((a*)*)*", 0, 3},
		{"(a*)+", 0, 1},
		{"(a+)+", 10, 1 << 9},
		{"(a+){3}", 63, 62 * 61 / 2},
		{"(a+){1,3}", 63, 1 + 62 + 62*61/2},
		{"(a+){0,3}", 63, 1 + 62 + 62*61/2},
		{"(a+){0,3}", 0, 1},
		{"(a?){63}", 63, 1},
		{"(a?){255}", 1, 255},
		{"(a?){255}", 2, 255 * 254 / 2},
		{"(a?){255}", 3, api.MaxWays},
		{"(a?){200}", 0, 1},
		{"(a?){1,64}", 63, 2},
		{"(a?){3,}", 2, 3 + 3 + 1},
		{"(a|a){63}", 62, 0},
		{"(a|b|a)*", 2, 4},
		{"((|)*)*", 0, 4},
		{"(||||){9}", 0, api.MaxWays},
		{"(||||){8}", 0, 390625},
		{"(||||){0,8}", 0, 6},
	} {
		x := scene.New(strings.Repeat("a", c.n), 0, 0)
		if got := count(t, parsed(t, c.p), x, 0, c.n); got != c.want {
			t.Errorf("Count of %s over %d bytes: %d, want %d", c.p, c.n, got, c.want)
		}
	}
}

// choice has so many parses of the byte a.
func choice(ways int) api.Node {
	return tree.Alt(slices.Repeat([]api.Node{tree.Text("a")}, ways)...)
}

// Counts around MaxWays: that many are told exactly, one more isn't; however they are made of Subs, rounds and alternatives.
func TestP13_1AtMostMaxWays(t *testing.T) {
	less := tree.Seq(choice(27), choice(37), choice(7), choice(11), choice(13))
	more := func(ways int) api.Node {
		return tree.Alt(append(slices.Repeat([]api.Node{tree.Text("aaaaa")}, ways), less)...)
	}
	for _, c := range []struct {
		n     api.Node
		bytes int
		want  int
	}{
		{less, 5, 999999},
		{more(1), 5, 1000000},
		{more(2), 5, 1000000},
		{more(9), 5, 1000000},
		{tree.Seq(less, tree.Alt(tree.Text("b"), tree.Text("a"))), 6, 999999},
		{tree.Seq(less, choice(2)), 6, 1000000},
		{tree.Seq(choice(2), less), 6, 1000000},
		{tree.Seq(more(9), more(9)), 10, 1000000},
		{tree.Seq(more(9), tree.Text("aaaab")), 10, 0},
		{tree.Rep(more(9), 1, 2), 10, 1000000},
		{tree.Rep(more(9), 0, -1), 60, 1000000},
		{tree.Rep(more(9), 12, 12), 60, 1000000},
		{tree.Rep(more(9), 12, 12), 61, 0},
		{tree.Alt(more(9), more(9)), 5, 1000000},
		{tree.Group(1, tree.Rep(more(9), 0, 1)), 5, 1000000},
		{tree.Rep(less, 1, 1), 5, 999999},
		{tree.Rep(choice(100), 3, 3), 3, 1000000},
		{tree.Rep(choice(10), 0, -1), 6, 1000000},
		{tree.Rep(choice(10), 0, 6), 6, 1000000},
		{tree.Rep(choice(11), 0, -1), 6, 1000000},
		{tree.Rep(choice(9), 0, -1), 6, 531441},
	} {
		x := scene.New(strings.Repeat("a", c.bytes), 0, 0)
		if got := count(t, c.n, x, 0, c.bytes); got != c.want {
			t.Errorf("Count of a tree of %d nodes over %d bytes: %d, want %d", tree.Size(c.n), c.bytes, got, c.want)
		}
	}
}

// All goes on beyond what Count tells at most.
func TestP13_1AllBeyondMaxWays(t *testing.T) {
	n, x := tree.Seq(choice(101), choice(100), choice(100)), scene.New("aaa", 0, 0)
	number := 0
	for p := range all(t, n, x, 0, 3) {
		one, two, three := number/10000, number/100%100, number%100
		if p.Subs[0].Pick != one || p.Subs[1].Pick != two || p.Subs[2].Pick != three {
			t.Fatalf("%s is number %d", told(p), number)
		}
		number++
	}
	if got := count(t, n, x, 0, 3); number != 1010000 || got != 1000000 {
		t.Errorf("%d parses, Count %d", number, got)
	}
}

func TestP13_1LongestSubjects(t *testing.T) {
	for _, size := range []int{62, 63} {
		x := scene.New(strings.Repeat("a", size-1)+"b", 0, 0)
		for _, p := range []string{"a*b", "a*b$", "^a*(b)?", "((aa)|b)*", "(a|b){62}", "(a|b){62,63}", "(a{9}|a{53}|b)+", "a{3,}b", "a*(a|b){40}", "a{0,61}b", "(a*)(a|b)"} {
			n := parsed(t, p)
			for _, from := range []int{0, 1, 60, size - 1, size} {
				for _, to := range []int{size - 1, size} {
					if from <= to {
						hold(t, n, x, from, to)
					}
				}
			}
		}
	}
}

// A piece goes forwards: where it would go back there is no parse, and no error.
func TestP13_1Backwards(t *testing.T) {
	for _, p := range []string{"a", "a*", "()", "^|$", "(a*)*", "b{0}"} {
		for _, s := range []string{"a", "aab", strings.Repeat("a", 63)} {
			x := scene.New(s, api.Newline, 0)
			for _, places := range [][2]int{{1, 0}, {len(s), 0}, {len(s), len(s) - 1}} {
				from, to := places[0], places[1]
				n := parsed(t, p)
				best, ok, err := parses.Best(n, x, from, to)
				if err != nil || ok || told(best) != "0-0" || best.Subs != nil {
					t.Errorf("Best of %s from %d to %d: %s, %v, %v", p, from, to, told(best), ok, err)
				}
				if got := count(t, n, x, from, to); got != 0 {
					t.Errorf("Count of %s from %d to %d: %d", p, from, to, got)
				}
				if list := first(all(t, n, x, from, to), -1); len(list) != 0 {
					t.Errorf("All of %s from %d to %d: %v", p, from, to, list)
				}
			}
		}
	}
}

// failing asks all three calls, which fail with an error of these words, without place and number, and answer else only zero values.
func failing(t *testing.T, n api.Node, x *scene.Scene, from, to int, words string) {
	t.Helper()
	best, ok, err := parses.Best(n, x, from, to)
	if fault.Tell(err) != words || ok || told(best) != "0-0" || best.Subs != nil {
		t.Errorf("Best from %d to %d: %s, %v, %v, want %s", from, to, told(best), ok, err, words)
	}
	if seq, err := parses.All(n, x, from, to); fault.Tell(err) != words || seq != nil {
		t.Errorf("All from %d to %d: %v, want %s", from, to, err, words)
	}
	if number, err := parses.Count(n, x, from, to); fault.Tell(err) != words || number != 0 {
		t.Errorf("Count from %d to %d: %d, %v, want %s", from, to, number, err, words)
	}
}

// starred is a tree in so many repeats without end, one in another.
func starred(levels int, n api.Node) api.Node {
	for range levels {
		n = tree.Rep(n, 0, -1)
	}
	return n
}

func TestP13_1Errors(t *testing.T) {
	a := tree.Text("a")
	great := tree.Rep(tree.Rep(a, 255, 255), 8, 8)
	barely := tree.Rep(a, 1, 1)
	barely.Bare = true
	short, long := scene.New("a", 0, 0), scene.New(strings.Repeat("a", 64), 0, 0)
	for _, c := range []struct {
		n     api.Node
		words string
	}{
		{api.Node{}, "tree"},
		{api.Node{Kind: 9}, "tree"},
		{api.Node{Kind: -1}, "tree"},
		{api.Node{Kind: api.KindSeq}, "tree"},
		{api.Node{Kind: api.KindAlt, Subs: []api.Node{a}}, "tree"},
		{api.Node{Kind: api.KindRep, Max: -1}, "tree"},
		{api.Node{Kind: api.KindGroup, Num: 1}, "tree"},
		{tree.Group(0, a), "tree"},
		{tree.Group(1000, a), "tree"},
		{tree.Rep(a, 2, 1), "tree"},
		{tree.Rep(a, 0, 256), "tree"},
		{barely, "tree"},
		{tree.Rep(tree.Group(0, a), 0, 0), "tree"},
		{tree.Alt(a, tree.Seq(a, api.Node{})), "tree"},
		{starred(200, a), "deep"},
		{starred(200, great), "deep"},
		{great, "too big"},
	} {
		for _, x := range []*scene.Scene{short, long} {
			failing(t, c.n, x, 0, 1, c.words)
			failing(t, c.n, x, 1, 0, c.words)
			failing(t, c.n, x, -1, 99, c.words)
		}
	}
	for _, size := range []int{64, 65, 100, 1000} {
		x := scene.New(strings.Repeat("a", size), 0, 0)
		for _, at := range []int{0, 1, 63, 64, size, -1, size + 1} {
			failing(t, a, x, at, at, "long")
			failing(t, a, x, 0, at, "long")
		}
	}
}

func TestP13_1NoPlace(t *testing.T) {
	for _, s := range []string{"", "a", "aab", strings.Repeat("a", 62), strings.Repeat("a", 63)} {
		n, x := tree.Rep(tree.Text("a"), 0, -1), scene.New(s, 0, 0)
		size := len(s)
		for _, at := range []int{-1, -2, -64, size + 1, size + 2, size + 64, 256 + size, 1<<32 + size, -1 << 32, math.MinInt, math.MinInt + size, math.MaxInt, math.MaxInt32} {
			failing(t, n, x, at, at, "argument")
			failing(t, n, x, at, 0, "argument")
			failing(t, n, x, at, size, "argument")
			failing(t, n, x, 0, at, "argument")
			failing(t, n, x, size, at, "argument")
		}
	}
}

// Going over may end at any place; nothing is told behind that.
func TestP13_1LeftAtAnyPlace(t *testing.T) {
	for _, p := range []string{"(a*)*", "(a|a){2}(a|)", "(a|aa)*|a*a*", "((a?){2,}|()?){3}"} {
		n, x := parsed(t, p), scene.New("aaa", 0, 0)
		seq := all(t, n, x, 0, 3)
		whole := first(seq, -1)
		if len(whole) != count(t, n, x, 0, 3) || len(whole) < 2 {
			t.Fatalf("%s: %d parses", p, len(whole))
		}
		for most := 1; most <= len(whole); most++ {
			calls := 0
			seq(func(got api.Parse) bool {
				if told(got) != whole[calls] {
					t.Errorf("%s: %s at %d, want %s", p, told(got), calls, whole[calls])
				}
				calls++
				return calls < most
			})
			if calls != most {
				t.Errorf("%s: left at %d, told %d", p, most, calls)
			}
		}
		if again := first(seq, -1); !slices.Equal(again, whole) {
			t.Errorf("%s: over again %q, first %q", p, again, whole)
		}
	}
}

// Going over begins anew each time, inside itself too, whoever is ahead.
func TestP13_1InsideItself(t *testing.T) {
	n, x := parsed(t, "(a|a|(a*)*)*"), scene.New("aa", 0, 0)
	seq := all(t, n, x, 0, 2)
	whole := first(seq, -1)
	outer := 0
	for p := range seq {
		inner := 0
		for q := range seq {
			if told(q) != whole[inner] {
				t.Fatalf("inside at %d: %s, want %s", inner, told(q), whole[inner])
			}
			inner++
			if inner == outer+1 {
				break
			}
		}
		if told(p) != whole[outer] || inner != outer+1 {
			t.Fatalf("at %d: %s, want %s; inside %d", outer, told(p), whole[outer], inner)
		}
		outer++
	}
	if outer != len(whole) {
		t.Errorf("%d of %d", outer, len(whole))
	}
	one, stopOne := iter.Pull(seq)
	defer stopOne()
	two, stopTwo := iter.Pull(seq)
	defer stopTwo()
	for i := range whole {
		p, _ := one()
		if i%2 == 1 {
			two()
			two()
		}
		if told(p) != whole[i] {
			t.Errorf("pulled at %d: %s, want %s", i, told(p), whole[i])
		}
	}
}

// scribble writes over all lists of a parse, spare room too.
func scribble(p api.Parse) {
	for _, sub := range p.Subs {
		scribble(sub)
	}
	room := p.Subs[:cap(p.Subs)]
	for i := range room {
		room[i] = api.Parse{From: -7, To: -7, Pick: -7}
	}
}

func TestP13_1NewMemory(t *testing.T) {
	for _, p := range []string{"(a*)*", "(a|a)*", "(a|ab)(c|bcd|)(d*)*", "((|)*|(a|b|c|d)*)*", "((((a?))?)*|.)*"} {
		n, x := parsed(t, p), scene.New("aa", 0, 0)
		if strings.Contains(p, "bcd") {
			x = scene.New("abcd", 0, 0)
		}
		seq := all(t, n, x, 0, x.Len())
		whole := first(seq, -1)
		at := 0
		for got := range seq {
			// What is told next doesn't go by what was told.
			if told(got) != whole[at] {
				t.Fatalf("%s: %s at %d, want %s", p, told(got), at, whole[at])
			}
			scribble(got)
			at++
		}
		list := slices.Collect(seq)
		best, _, _ := parses.Best(n, x, 0, x.Len())
		for i := range list {
			scribble(list[i])
			for j := i + 1; j < len(list); j++ {
				if told(list[j]) != whole[j] {
					t.Fatalf("%s: %s at %d, want %s; %d was written on", p, told(list[j]), j, whole[j], i)
				}
			}
		}
		other, _, _ := parses.Best(n, x, 0, x.Len())
		if told(best) != whole[0] || told(other) != whole[0] {
			t.Fatalf("%s: Best %s, %s, want %s", p, told(best), told(other), whole[0])
		}
		scribble(best)
		if told(other) != whole[0] {
			t.Errorf("%s: one best parse shares with another one", p)
		}
	}
}

// lists answers where all lists of a parse lie.
func lists(p api.Parse) []*api.Parse {
	var made []*api.Parse
	if cap(p.Subs) > 0 {
		made = append(made, &p.Subs[:1][0])
	}
	for _, sub := range p.Subs {
		made = append(made, lists(sub)...)
	}
	return made
}

// No two lists of one parse are the same, where two of its Subs are alike.
func TestP13_1NoListTwice(t *testing.T) {
	x := scene.New("aa", 0, 0)
	for _, p := range []string{"((a)?){4}", "(())*", "((a)|b)*", "(()|()){3}(a*)(a*)"} {
		seen := map[*api.Parse]bool{}
		// All of them are kept, so that none is made where an earlier one was.
		for _, got := range slices.Collect(all(t, parsed(t, p), x, 0, 2)) {
			for _, list := range lists(got) {
				if seen[list] {
					t.Fatalf("%s: %s has a list that was told before", p, told(got))
				}
				seen[list] = true
			}
		}
	}
}

// spoil writes over all that hangs on a tree.
func spoil(n api.Node) {
	for i := range n.Subs {
		spoil(n.Subs[i])
		n.Subs[i] = api.Node{Kind: -1}
	}
}

// What is handed in is neither changed nor kept: an iterator goes on by the tree that it was made of.
func TestP13_1HandedIn(t *testing.T) {
	for _, p := range []string{"(a|ab)(c|bcd)(d*)", "((a|b|c|d)*)*", "a{0,1}(b|c|d){2,}", "(a(b(c(d)?)?)?)(b|c|d)*"} {
		n, x := parsed(t, p), scene.New("abcd", 0, 0)
		kept := tree.Copy(n)
		seq := all(t, n, x, 0, 4)
		whole := first(seq, -1)
		count(t, n, x, 0, 4)
		parses.Best(n, x, 0, 4)
		if !tree.Same(n, kept) || x.Text() != "abcd" {
			t.Fatalf("%s: an argument was changed", p)
		}
		if len(whole) == 0 {
			t.Fatalf("%s: no parse", p)
		}
		spoil(n)
		*x = *scene.New("xyz", 0, 0)
		if got := first(seq, -1); !slices.Equal(got, whole) {
			t.Errorf("%s: %q, once the tree is another one, %q before", p, got, whole)
		}
	}
}

// inTime fails, if work goes on for long: what has very many parses must not be gone through to find the first ones, nor to count them.
func inTime(t *testing.T, what string, work func()) {
	t.Helper()
	began := time.Now()
	work()
	if took := time.Since(began); took > 30*time.Second {
		t.Fatalf("%s: it took %v", what, took)
	}
}

func TestP13_1ManyParses(t *testing.T) {
	a := tree.Text("a")
	maybe := tree.Seq(slices.Repeat([]api.Node{tree.Rep(a, 0, 1)}, 990)...)
	rarely := tree.Seq(append(slices.Repeat([]api.Node{tree.Rep(tree.Text("b"), 0, 1)}, 990), a)...)
	x := scene.New(strings.Repeat("a", 63), 0, 0)
	for _, c := range []struct {
		what string
		n    api.Node
		want int
	}{
		{"199 stars", starred(199, a), api.MaxWays},
		{"990 times maybe", maybe, api.MaxWays},
		{"that starred", tree.Rep(maybe, 0, -1), api.MaxWays},
		{"a byte behind 990 that aren't there, starred", tree.Rep(rarely, 0, -1), 1},
		{"all ways to cut", parsed(t, "((a*)*(a|a)*)*"), api.MaxWays},
		{"no end at the end", parsed(t, "((a*)*(a|a)*)*b"), 0},
		{"no end at the end, 100 times", parsed(t, "((a|a){0,100}b?){2}b"), 0},
		{"no end but one", parsed(t, "(((a|aa)*){2}b|a{63})"), 1},
		{"empty rounds", tree.Rep(tree.Alt(tree.Seq(), a), 255, 255), api.MaxWays},
		{"stars in order", tree.Seq(slices.Repeat([]api.Node{tree.Rep(a, 0, -1)}, 900)...), api.MaxWays},
		{"choices", parsed(t, "(a|a){62}(b|a)"), api.MaxWays},
	} {
		inTime(t, c.what, func() {
			if got := count(t, c.n, x, 0, 63); got != c.want {
				t.Errorf("%s: Count %d, want %d", c.what, got, c.want)
			}
			number := 0
			var last api.Parse
			for p := range all(t, c.n, x, 0, 63) {
				if !rank.Check(c.n, x, p) || number > 0 && rank.Compare(last, p) != -1 {
					t.Errorf("%s: number %d is no parse, or not behind the one ahead", c.what, number)
				}
				last = p
				number++
				if number == 100 {
					break
				}
			}
			if number != min(c.want, 100) {
				t.Errorf("%s: %d parses", c.what, number)
			}
		})
	}
}

// Below a repeat that is never gone through a right tree may have what would be too great elsewhere.
func TestP13_1NeverGoneThrough(t *testing.T) {
	great := tree.Text("a")
	for range 60 {
		great = tree.Rep(great, 255, 255)
	}
	n, x := tree.Seq(tree.Rep(great, 0, 0), tree.Text("a")), scene.New("a", 0, 0)
	inTime(t, "no round", func() {
		if got := first(all(t, n, x, 0, 1), -1); !slices.Equal(got, []string{"0-1[0-0 0-1]"}) {
			t.Errorf("%q", got)
		}
		hold(t, n, x, 1, 1)
	})
}

// The three calls among themselves, and with the layers below, over all pieces.
func TestP13_2OneAndAll(t *testing.T) {
	r := rand.New(rand.NewSource(14))
	held := 0
	for range 1500 {
		n := parsed(t, random(r, 2+r.Intn(7)))
		x := scene.New(text(r, 8), api.Newline*r.Intn(2), r.Intn(4))
		for from := range x.Len() + 1 {
			for to := range x.Len() + 1 {
				if holdTogether(t, n, x, from, to) {
					held++
				}
			}
		}
	}
	if held < 10000 {
		t.Errorf("only %d pieces were held", held)
	}
}

// holdTogether holds what the calls tell of a piece against each other; false, if it has too many parses.
func holdTogether(t *testing.T, n api.Node, x *scene.Scene, from, to int) bool {
	t.Helper()
	number := count(t, n, x, from, to)
	best, ok, err := parses.Best(n, x, from, to)
	taken, _ := reach.Takes(n, x, from, to)
	if err != nil || ok != taken || ok != (number > 0) {
		t.Fatalf("%v, %q, %d to %d: Count %d, Best %v, %v, Takes %v", n, x.Text(), from, to, number, ok, err, taken)
	}
	if number > 1000 {
		return false
	}
	list := slices.Collect(all(t, n, x, from, to))
	if len(list) != number || ok && told(list[0]) != told(best) {
		t.Fatalf("%v, %q, %d to %d: All tells %d, Count %d, Best %s", n, x.Text(), from, to, len(list), number, told(best))
	}
	for i, p := range list {
		if !rank.Check(n, x, p) || i > 0 && rank.Compare(list[i-1], p) != -1 {
			t.Fatalf("%v, %q, %d to %d: %s at %d", n, x.Text(), from, to, told(p), i)
		}
	}
	return true
}

// The spans by the best parse, as the whole program is to tell them.
func TestP13_2SpansByTheBest(t *testing.T) {
	for _, c := range []struct {
		p, s string
		want []api.Span
	}{
		{"(a|ab)(c|bcd)(d*)", "abcd", []api.Span{{From: 0, To: 4}, {From: 0, To: 2}, {From: 2, To: 3}, {From: 3, To: 4}}},
		{"(a*)*", "", []api.Span{{}, {}}},
		{"(a*)*", "aa", []api.Span{{From: 0, To: 2}, {From: 0, To: 2}}},
		{"((a)|b)*", "ab", []api.Span{{From: 0, To: 2}, {From: 1, To: 2}, {From: -1, To: -1}}},
		{"(a*)(ab)*(b*)", "abb", []api.Span{{From: 0, To: 3}, {From: 0, To: 1}, {From: -1, To: -1}, {From: 1, To: 3}}},
		{"(ab*){2}", "abbab", []api.Span{{From: 0, To: 5}, {From: 3, To: 5}}},
		{"(a?){3}", "aa", []api.Span{{From: 0, To: 2}, {From: 2, To: 2}}},
		{"(a)|(a)", "a", []api.Span{{From: 0, To: 1}, {From: 0, To: 1}, {From: -1, To: -1}}},
	} {
		n, x := parsed(t, c.p), scene.New(c.s, 0, 0)
		best, ok, err := parses.Best(n, x, 0, len(c.s))
		got, right := rank.Spans(n, x, best, tree.Groups(n))
		if err != nil || !ok || !right || !slices.Equal(got, c.want) {
			t.Errorf("%s over %q: %v, want %v", c.p, c.s, got, c.want)
		}
	}
}
