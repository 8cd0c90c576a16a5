package reach_test

import (
	"errors"
	"fmt"
	"math/rand"
	"regexp"
	"slices"
	"strings"
	"testing"
	"time"

	"trawl/api"
	"trawl/ere"
	"trawl/reach"
	"trawl/scene"
	"trawl/tree"
)

// parsed answers the tree of an extended pattern.
func parsed(t *testing.T, p string, flags int) api.Node {
	t.Helper()
	x, _, err := ere.Parse(p, flags)
	if err != nil {
		t.Fatalf("%q: %v", p, err)
	}
	return x
}

// hold holds all answers for a right tree and a scene against the model.
func hold(t *testing.T, n api.Node, x *scene.Scene) {
	t.Helper()
	m := modelOf(x)
	for from := range x.Len() + 1 {
		want := m.ends(&n, from)
		got, err := reach.Ends(n, x, from)
		if err != nil || !slices.Equal(got, want) {
			t.Fatalf("Ends(%v, %q, %d) = %v, %v, want %v", n, x.Text(), from, got, err, want)
		}
		for to := range x.Len() + 1 {
			ok, err := reach.Takes(n, x, from, to)
			if err != nil || ok != slices.Contains(want, to) {
				t.Fatalf("Takes(%v, %q, %d, %d) = %v, %v; the ends are %v", n, x.Text(), from, to, ok, err, want)
			}
		}
	}
	want, found := m.first(&n)
	got, ok, err := reach.First(n, x)
	if err != nil || ok != found || got != want {
		t.Fatalf("First(%v, %q) = %v, %v, %v, want %v, %v", n, x.Text(), got, ok, err, want, found)
	}
}

// ends are the ends that a call tells of a right tree, a scene and one of its places.
func ends(t *testing.T, n api.Node, x *scene.Scene, from int) []int {
	t.Helper()
	list, err := reach.Ends(n, x, from)
	if err != nil {
		t.Fatalf("Ends(%v, %q, %d): %v", n, x.Text(), from, err)
	}
	return list
}

// takes is what a call tells of a right tree, a scene and two of its places.
func takes(t *testing.T, n api.Node, x *scene.Scene, from, to int) bool {
	t.Helper()
	ok, err := reach.Takes(n, x, from, to)
	if err != nil {
		t.Fatalf("Takes(%v, %q, %d, %d): %v", n, x.Text(), from, to, err)
	}
	return ok
}

func TestP11_1Ends(t *testing.T) {
	for _, c := range []struct {
		p, s string
		from int
		want string
	}{
		{"a*", "aab", 0, "[0 1 2]"},
		{"a*", "aab", 2, "[2]"},
		{"a*", "aab", 3, "[3]"},
		{"a|ab|abc", "abc", 0, "[1 2 3]"},
		{"abc|a|ab", "abc", 0, "[1 2 3]"},
		{"(a|b){2,3}", "abab", 1, "[3 4]"},
		{"^", "a", 0, "[0]"},
		{"^", "a", 1, "[]"},
		{"$", "a", 0, "[]"},
		{"$", "a", 1, "[1]"},
		{"^$", "", 0, "[0]"},
		{"()", "ab", 1, "[1]"},
		{"a", "b", 0, "[]"},
		{"(a*){3}b", "aab", 0, "[3]"},
		{"(a*)+", "aab", 0, "[0 1 2]"},
		{"(^a)*", "aa", 0, "[0 1]"},
		{"(ab|a|b)*", "aba", 0, "[0 1 2 3]"},
		{"(aa|aaa){2}", "aaaaaaa", 0, "[4 5 6]"},
		{"(aaa|aaaaa)*", "aaaaaaaaaaa", 0, "[0 3 5 6 8 9 10 11]"},
		{"a{0}", "aa", 1, "[1]"},
		{"a{2,4}", "aaaaaa", 1, "[3 4 5]"},
	} {
		got := ends(t, parsed(t, c.p, 0), scene.New(c.s, 0, 0), c.from)
		if fmt.Sprint(got) != c.want {
			t.Errorf("Ends of %s in %q from %d: %v, want %s", c.p, c.s, c.from, got, c.want)
		}
	}
}

func TestP11_1Takes(t *testing.T) {
	x := scene.New("aab", 0, 0)
	for _, c := range []struct {
		p        string
		from, to int
		want     bool
	}{
		{"a*", 0, 0, true}, {"a*", 0, 2, true}, {"a*", 1, 2, true}, {"a*", 0, 3, false}, {"a*", 3, 3, true},
		{"a*", 2, 1, false}, {"a*", 3, 0, false}, {"()", 1, 0, false}, {"()", 1, 2, false}, {"b", 3, 2, false},
		{"b", 2, 3, true}, {"^aab$", 0, 3, true}, {"^a", 1, 2, false}, {"a$", 1, 2, false},
	} {
		if got := takes(t, parsed(t, c.p, 0), x, c.from, c.to); got != c.want {
			t.Errorf("Takes of %s in aab from %d to %d: %v", c.p, c.from, c.to, got)
		}
	}
}

func TestP11_1First(t *testing.T) {
	for _, c := range []struct {
		p, s string
		want api.Span
		ok   bool
	}{
		{"b+", "abbab", api.Span{From: 1, To: 3}, true},
		{"c", "ab", api.Span{}, false},
		{"()", "ab", api.Span{}, true},
		{"a{0}b", "ab", api.Span{From: 1, To: 2}, true},
		{"b|bab|ab", "bbab", api.Span{From: 0, To: 1}, true},
		{"$", "ab", api.Span{From: 2, To: 2}, true},
		{"a*", "baa", api.Span{From: 0, To: 0}, true},
		{"x", "", api.Span{}, false},
		{"", "", api.Span{}, true},
		{"(a|ab)(c|bcd)(d*)", "xabcdd", api.Span{From: 1, To: 6}, true},
	} {
		var n api.Node
		if c.p == "" {
			n = tree.Seq()
		} else {
			n = parsed(t, c.p, 0)
		}
		got, ok, err := reach.First(n, scene.New(c.s, 0, 0))
		if err != nil || ok != c.ok || got != c.want {
			t.Errorf("First of %q in %q: %v, %v, %v, want %v, %v", c.p, c.s, got, ok, err, c.want, c.ok)
		}
	}
}

// flagged are the scenes of a subject by all flags that say something.
func flagged(s string) []*scene.Scene {
	var list []*scene.Scene
	for _, cflags := range []int{0, api.Newline} {
		for eflags := range 4 {
			list = append(list, scene.New(s, cflags, eflags))
		}
	}
	return list
}

func TestP11_1SmallTrees(t *testing.T) {
	for _, s := range subjects("a\n", 3) {
		for _, x := range flagged(s) {
			for _, n := range append(leaves(), grown(leaves())...) {
				hold(t, n, x)
			}
		}
	}
}

// Repeats of repeats, of sequences and of alternatives have the empty rounds that a single byte doesn't have.
func TestP11_1RepeatsOfSmallTrees(t *testing.T) {
	below := grown([]api.Node{{Kind: api.KindEmpty}, {Kind: api.KindBegin}, {Kind: api.KindEnd}, tree.Text("a")})
	for _, s := range []string{"", "a", "aa", "aaaa", "a\na", "ba"} {
		for _, x := range []*scene.Scene{scene.New(s, 0, 0), scene.New(s, api.Newline, 3)} {
			for _, n := range below {
				for _, r := range repeats(n) {
					if tree.Check(r) == nil {
						hold(t, r, x)
					}
				}
			}
		}
	}
}

func TestP11_1RandomTrees(t *testing.T) {
	r := rand.New(rand.NewSource(11))
	right := 0
	for range 3000 {
		n := random(r, 2+r.Intn(14))
		if tree.Check(n) != nil {
			continue
		}
		right++
		s := text(r, 9)
		hold(t, n, scene.New(s, api.Newline*r.Intn(2), r.Intn(4)))
	}
	if right < 2000 {
		t.Errorf("only %d trees were right", right)
	}
}

// A turned scene is a scene too: its anchors are its own.
func TestP11_1TurnedScenes(t *testing.T) {
	for _, n := range grown(leaves()) {
		for _, s := range []string{"", "a", "a\n", "aa\nb"} {
			for _, x := range flagged(s) {
				hold(t, n, x.Turned())
			}
		}
	}
}

func TestP11_1EveryByte(t *testing.T) {
	for b := range 256 {
		s := string([]byte{byte(b)})
		in := tree.Text(s)
		var out api.Set
		for i := range out {
			out[i] = ^in.Set[i]
		}
		for _, flags := range []int{0, api.Newline, api.Icase} {
			x := scene.New(s, flags, 0)
			if !takes(t, in, x, 0, 1) || takes(t, tree.Bytes(out), x, 0, 1) {
				t.Errorf("byte %d, flags %d: not by its own set, or by the set without it", b, flags)
			}
			if list := ends(t, in, x, 0); !slices.Equal(list, []int{1}) {
				t.Errorf("byte %d, flags %d: %v", b, flags, list)
			}
		}
	}
}

// The longest subjects have 64 places, the last of which is the last bit of a word.
func TestP11_1LongestSubjects(t *testing.T) {
	for _, n := range []int{62, 63} {
		x := scene.New(strings.Repeat("a", n-1)+"b", 0, 0)
		for _, p := range []string{"a*b", "a*b?$", "(aa|aaaaa)*", "(a{7}|a{31})+", "^(a|ab){62}", "(a|b){63}", "(a|b){60,63}", "(a|b){0,61}", "(a|b)*", "b", "$", "(a*)*", "a{3,}", "(a|b|^|$){70}"} {
			hold(t, parsed(t, p, 0), x)
		}
	}
	x := scene.New(strings.Repeat("a", 63), 0, 0)
	last, ok, err := reach.First(parsed(t, "$", 0), x)
	if err != nil || !ok || last != (api.Span{From: 63, To: 63}) {
		t.Errorf("First of $ behind 63 bytes: %v, %v, %v", last, ok, err)
	}
	whole, ok, err := reach.First(parsed(t, "a*", 0), x)
	if err != nil || !ok || whole != (api.Span{From: 0, To: 63}) {
		t.Errorf("First of a* in 63 bytes: %v, %v, %v", whole, ok, err)
	}
}

func TestP11_1GreatCounts(t *testing.T) {
	for _, c := range []struct {
		min, max int
		lengths  []int
	}{
		{62, 62, []int{62}}, {63, 63, []int{63}}, {63, -1, []int{63}}, {64, 64, nil}, {64, -1, nil}, {255, 255, nil}, {61, 255, []int{61, 62, 63}}, {0, 2, []int{0, 1, 2}},
	} {
		n := tree.Rep(tree.Text("a"), c.min, c.max)
		if list := ends(t, n, scene.New(strings.Repeat("a", 63), 0, 0), 0); !slices.Equal(list, c.lengths) {
			t.Errorf("a{%d,%d}: %v, want %v", c.min, c.max, list, c.lengths)
		}
	}
	every := parsed(t, "(a?){255}", 0)
	if list := ends(t, every, scene.New(strings.Repeat("a", 63), 0, 0), 0); len(list) != 64 {
		t.Errorf("(a?){255}: %v", list)
	}
}

// goPattern writes a tree as a pattern of the library's, which has nothing of the program's ways.
func goPattern(t api.Node, lines bool) string {
	switch t.Kind {
	case api.KindBytes:
		class := "[^\\x{0}-\\x{10ffff}]"
		for b := range 128 {
			if t.Set[b/64]>>(b%64)&1 == 1 {
				class += fmt.Sprintf("|\\x{%x}", b)
			}
		}
		return "(?:" + class + ")"
	case api.KindBegin:
		if lines {
			return "(?m:^)"
		}
		return "\\A"
	case api.KindEnd:
		if lines {
			return "(?m:$)"
		}
		return "\\z"
	case api.KindGroup:
		return "(" + goPattern(t.Subs[0], lines) + ")"
	case api.KindRep:
		bounds := fmt.Sprintf("{%d,%d}", t.Min, t.Max)
		if t.Max == -1 {
			bounds = fmt.Sprintf("{%d,}", t.Min)
		}
		return "(?:" + goPattern(t.Subs[0], lines) + ")" + bounds
	}
	between := ""
	if t.Kind == api.KindAlt {
		between = "|"
	}
	var parts []string
	for _, sub := range t.Subs {
		parts = append(parts, goPattern(sub, lines))
	}
	return "(?:" + strings.Join(parts, between) + ")"
}

func TestP11_1AsTheLibrary(t *testing.T) {
	r := rand.New(rand.NewSource(12))
	held := 0
	for range 1500 {
		n := random(r, 2+r.Intn(10))
		lines := r.Intn(2) == 0
		middle := goPattern(n, lines)
		if tree.Check(n) != nil {
			continue
		}
		s := text(r, 6)
		cflags := 0
		if lines {
			cflags = api.Newline
		}
		for from := range len(s) + 1 {
			for to := from; to <= len(s); to++ {
				p, err := regexp.Compile(fmt.Sprintf("\\A(?s:.{%d})(?:%s)(?s:.{%d})\\z", from, middle, len(s)-to))
				if err != nil {
					// The library refuses great counts in one another.
					continue
				}
				held++
				if got, want := takes(t, n, scene.New(s, cflags, 0), from, to), p.MatchString(s); got != want {
					t.Fatalf("Takes(%s, %q, %d, %d) = %v", middle, s, from, to, got)
				}
			}
		}
	}
	if held < 5000 {
		t.Errorf("only %d pieces were held", held)
	}
}

// isJust tells whether an error is this one of the program's, none of the others, and has neither place nor number in it.
func isJust(err, want error) bool {
	for _, other := range []error{api.ErrBracket, api.ErrParen, api.ErrBrace, api.ErrCount, api.ErrRange, api.ErrClass, api.ErrCollate, api.ErrEscape, api.ErrRepeat, api.ErrTooBig, api.ErrNest, api.ErrLong, api.ErrTree, api.ErrDeep, api.ErrArgument, api.ErrNoMatch, api.ErrImage, api.ErrMany, api.ErrOption, api.ErrCommand, api.ErrClosed} {
		if errors.Is(err, other) != (other == want) {
			return false
		}
	}
	var fault *api.Fault
	var listed *api.Listed
	return !errors.As(err, &fault) && !errors.As(err, &listed)
}

// failing asks all three calls, which answer this error and else only zero values.
func failing(t *testing.T, n api.Node, x *scene.Scene, from, to int, want error) {
	t.Helper()
	if list, err := reach.Ends(n, x, from); !isJust(err, want) || len(list) != 0 {
		t.Errorf("Ends from %d: %v, %v, want %v", from, list, err, want)
	}
	if ok, err := reach.Takes(n, x, from, to); !isJust(err, want) || ok {
		t.Errorf("Takes from %d to %d: %v, %v, want %v", from, to, ok, err, want)
	}
	if want == api.ErrArgument {
		return
	}
	if span, ok, err := reach.First(n, x); !isJust(err, want) || ok || span != (api.Span{}) {
		t.Errorf("First: %v, %v, %v, want %v", span, ok, err, want)
	}
}

// deep is a repeat without end of one of another one, and so on.
func deep(levels int, leaf api.Node) api.Node {
	n := leaf
	for range levels {
		n = tree.Rep(n, 0, -1)
	}
	return n
}

func TestP11_1Errors(t *testing.T) {
	wrong := []struct {
		n    api.Node
		want error
	}{
		{api.Node{}, api.ErrTree},
		{api.Node{Kind: 9}, api.ErrTree},
		{api.Node{Kind: -1}, api.ErrTree},
		{api.Node{Kind: api.KindSeq}, api.ErrTree},
		{api.Node{Kind: api.KindRep, Max: -1}, api.ErrTree},
		{api.Node{Kind: api.KindGroup, Num: 1}, api.ErrTree},
		{tree.Rep(tree.Text("a"), 2, 1), api.ErrTree},
		{tree.Rep(tree.Group(0, tree.Text("a")), 0, 0), api.ErrTree},
		{tree.Alt(tree.Text("a"), tree.Seq(tree.Text("b"), api.Node{})), api.ErrTree},
		{deep(200, tree.Text("a")), api.ErrDeep},
		{tree.Rep(tree.Rep(tree.Text("a"), 255, 255), 8, 8), api.ErrTooBig},
		{deep(200, tree.Rep(tree.Rep(tree.Text("a"), 255, 255), 8, 8)), api.ErrDeep},
	}
	short, long := scene.New("abc", 0, 0), scene.New(strings.Repeat("a", 64), 0, 0)
	for _, w := range wrong {
		for _, x := range []*scene.Scene{short, long} {
			failing(t, w.n, x, 0, 0, w.want)
			failing(t, w.n, x, -1, 99, w.want)
		}
	}
	for _, size := range []int{64, 65, 128, 1000} {
		x := scene.New(strings.Repeat("a", size), 0, 0)
		for _, at := range []int{0, 63, 64, size, -1, size + 1} {
			failing(t, tree.Text("a"), x, at, at, api.ErrLong)
		}
	}
}

func TestP11_1NoPlace(t *testing.T) {
	for _, s := range []string{"", "a", "abc", strings.Repeat("a", 62), strings.Repeat("a", 63)} {
		x := scene.New(s, 0, 0)
		for _, n := range []api.Node{tree.Text("a"), deep(1, tree.Text("a"))} {
			for _, at := range outside(len(s)) {
				failing(t, n, x, at, at, api.ErrArgument)
				failing(t, n, x, at, 0, api.ErrArgument)
				if ok, err := reach.Takes(n, x, 0, at); !isJust(err, api.ErrArgument) || ok {
					t.Fatalf("Takes from 0 to %d of %d: %v, %v", at, len(s), ok, err)
				}
				if ok, err := reach.Takes(n, x, len(s), at); !isJust(err, api.ErrArgument) || ok {
					t.Fatalf("Takes from the end to %d of %d: %v, %v", at, len(s), ok, err)
				}
			}
		}
	}
}

func TestP11_1NewMemory(t *testing.T) {
	n, x := parsed(t, "(a|b)*", 0), scene.New("abab", 0, 0)
	kept := tree.Copy(n)
	one := ends(t, n, x, 0)
	two := ends(t, n, x, 0)
	for i := range one[:cap(one)] {
		one[:cap(one)][i] = 99
	}
	if !slices.Equal(two, []int{0, 1, 2, 3, 4}) || !slices.Equal(ends(t, n, x, 0), two) {
		t.Errorf("a list that was written on changed another one: %v", two)
	}
	if !tree.Same(n, kept) || x.Text() != "abab" {
		t.Error("an argument was changed")
	}
}

// inTime fails if one call's work goes on for long: repeats in one another must not be gone through again and again.
func inTime(t *testing.T, n api.Node, x *scene.Scene) []int {
	t.Helper()
	began := time.Now()
	list := ends(t, n, x, 0)
	if took := time.Since(began); took > 20*time.Second {
		t.Fatalf("it took %v", took)
	}
	return list
}

func TestP11_1RepeatsInOneAnother(t *testing.T) {
	x := scene.New(strings.Repeat("a", 63), 0, 0)
	if list := inTime(t, deep(199, tree.Text("a")), x); len(list) != 64 {
		t.Errorf("199 stars: %v", list)
	}
	choice := tree.Text("a")
	for range 99 {
		choice = tree.Rep(tree.Alt(choice, tree.Text("b")), 0, -1)
	}
	if list := inTime(t, choice, x); len(list) != 64 {
		t.Errorf("99 stars of choices: %v", list)
	}
	once := tree.Text("a")
	for range 99 {
		once = tree.Rep(once, 1, 1)
	}
	if list := inTime(t, once, x); !slices.Equal(list, []int{1}) {
		t.Errorf("99 times once: %v", list)
	}
	var many []api.Node
	for range 999 {
		many = append(many, tree.Rep(tree.Text("a"), 0, -1))
	}
	if list := inTime(t, tree.Seq(many...), x); len(list) != 64 {
		t.Errorf("999 stars in order: %v", list)
	}
}

// Below a repeat that is never gone through a right tree may have what would be too great elsewhere.
func TestP11_1NeverGoneThrough(t *testing.T) {
	great := tree.Text("a")
	for range 60 {
		great = tree.Rep(great, 255, 255)
	}
	x := scene.New("aa", 0, 0)
	if list := inTime(t, tree.Rep(great, 0, 0), x); !slices.Equal(list, []int{0}) {
		t.Errorf("no round: %v", list)
	}
	behind := tree.Seq(tree.Rep(great, 0, 0), tree.Text("a"))
	if list := inTime(t, behind, x); !slices.Equal(list, []int{1}) {
		t.Errorf("no round, and a byte: %v", list)
	}
}

// pairs are small trees, of which any two may stand side by side.
func pairs(t *testing.T) []api.Node {
	var list []api.Node
	for _, p := range []string{"a", "b", "a*", "ab?", "^", "$", "(a|bb)+", "a{2,3}", "(a|$)*", "[^b]", "()", "(^|a){2}b"} {
		list = append(list, parsed(t, p, api.Newline))
	}
	return list
}

func TestP11_2TwoTrees(t *testing.T) {
	for _, s := range append(subjects("ab", 3), "a\nb", "aab\nab", "abbab") {
		x := scene.New(s, api.Newline, 0)
		for _, a := range pairs(t) {
			for _, b := range pairs(t) {
				holdTwo(t, a, b, x)
			}
		}
	}
}

// holdTwo holds a Seq and an Alt of two trees, and a Group of one, against what is told of the two.
func holdTwo(t *testing.T, a, b api.Node, x *scene.Scene) {
	t.Helper()
	for from := range x.Len() + 1 {
		for to := range x.Len() + 1 {
			cut := false
			for mid := range x.Len() + 1 {
				cut = cut || takes(t, a, x, from, mid) && takes(t, b, x, mid, to)
			}
			one, other := takes(t, a, x, from, to), takes(t, b, x, from, to)
			if takes(t, tree.Seq(a, b), x, from, to) != cut {
				t.Fatalf("Seq(%v, %v), %q, %d to %d: cut is %v", a, b, x.Text(), from, to, cut)
			}
			if takes(t, tree.Alt(a, b), x, from, to) != (one || other) {
				t.Fatalf("Alt(%v, %v), %q, %d to %d: %v, %v", a, b, x.Text(), from, to, one, other)
			}
			if takes(t, tree.Group(7, a), x, from, to) != one {
				t.Fatalf("Group(%v), %q, %d to %d: %v", a, x.Text(), from, to, one)
			}
			if slices.Contains(ends(t, a, x, from), to) != one {
				t.Fatalf("Ends of %v, %q from %d: Takes to %d is %v", a, x.Text(), from, to, one)
			}
		}
	}
}

// Behind the last end, and the byte behind it, other bytes, fewer or more of them, leave all ends up to it as they are.
func TestP11_2BehindTheLastEnd(t *testing.T) {
	r := rand.New(rand.NewSource(13))
	for range 4000 {
		n := random(r, 2+r.Intn(10))
		if tree.Check(n) != nil {
			continue
		}
		s, cflags, eflags := text(r, 8), api.Newline*r.Intn(2), r.Intn(4)
		x := scene.New(s, cflags, eflags)
		for from := range len(s) + 1 {
			list := ends(t, n, x, from)
			if len(list) == 0 || list[len(list)-1] == len(s) {
				continue
			}
			last := list[len(list)-1]
			other := scene.New(s[:last+1]+text(r, 8), cflags, eflags)
			got := ends(t, n, other, from)
			if len(got) < len(list) || !slices.Equal(got[:len(list)], list) {
				t.Fatalf("%v from %d: %v in %q, %v in %q", n, from, list, s, got, other.Text())
			}
		}
	}
}
