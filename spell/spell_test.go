package spell_test

import (
	"errors"
	"math"
	"slices"
	"strings"
	"testing"

	"trawl/api"
	"trawl/bre"
	"trawl/ere"
	"trawl/spell"
	"trawl/tree"
)

func TestP8_1Examples(t *testing.T) {
	a := leaf('a')
	for text, x := range map[string]api.Node{
		`\.`:        leaf('.'),
		"[ab]":      leaf('a', 'b'),
		"[a-c]":     leaf('a', 'b', 'c'),
		"[]a-]":     leaf(']', 'a', '-'),
		"[-^]":      leaf('^', '-'),
		"[[^]":      leaf('[', '^'),
		"[+,.-]":    leaf('+', ',', '-', '.'),
		"[^a]":      allBut('a'),
		"a|":        alt(a, empty()),
		"()":        group(1, empty()),
		"a{1}":      rep(a, 1, 1),
		"(a){2,}":   rep(group(1, a), 2, -1),
		"":          empty(),
		"^":         begin(),
		"$":         end(),
		"a":         a,
		".":         allBut(),
		"aa":        seq(a, a),
		"^a$":       seq(begin(), a, end()),
		"a|a|":      alt(a, a, empty()),
		"||":        alt(empty(), empty(), empty()),
		`a^|$\*`:    alt(seq(a, begin()), seq(end(), leaf('*'))),
		"(a|aa)b*|": alt(seq(group(1, alt(a, seq(a, a))), rep(leaf('b'), 0, -1)), empty()),
		"((a)(b))c": seq(group(1, seq(group(2, a), group(3, leaf('b')))), leaf('c')),
	} {
		hold(t, x, text, nil)
	}
	for _, x := range []api.Node{seq(a, empty()), rep(seq(a, a), 0, -1), group(2, a)} {
		hold(t, x, "", api.ErrTree)
	}
	for s, want := range map[string][2]string{
		"a.b*":  {`a\.b\*`, `a\.b\*`},
		"(a|b)": {"(a|b)", `\(a\|b\)`},
		"":      {"", ""},
	} {
		if spell.Quote(s, 0) != want[0] || spell.Quote(s, api.Extended) != want[1] {
			t.Errorf("Quote(%q) = %q, Extended %q", s, spell.Quote(s, 0), spell.Quote(s, api.Extended))
		}
	}
}

func TestP8_1EachByte(t *testing.T) {
	for n := range 256 {
		b := byte(n)
		alone := string([]byte{b})
		want := alone
		if strings.Contains(".[()*+?{|^$\\", alone) {
			want = "\\" + alone
		}
		hold(t, leaf(b), want, nil)
		hold(t, rep(leaf(b), 3, 4), want+"{3,4}", nil)
		hold(t, seq(leaf('x'), leaf(b)), "x"+want, nil)
		hold(t, allBut(b), "[^"+alone+"]", nil)
	}
}

func TestP8_1Brackets(t *testing.T) {
	for text, x := range map[string]api.Node{
		// How many bytes a set has says what is told of it.
		"[^]\x00-,.-Z\\_-\xff[^-]": leaf(),
		"[]\x00-,.-Z\\_-\x7f[^-]":  from(0, 127),
		"[]\x00-,.-Z\\_-~[^-]":     from(0, 126),
		"[^\x81-\xff]":             from(0, 128),
		"[\x80-\xff]":              from(128, 255),
		"[^]\x00-,.-Z\\_-~[^-]":    from(127, 255),
		"[^\xfe\xff]":              from(0, 253),
		"[^\xff]":                  from(0, 254),
		"[^\x00]":                  from(1, 255),
		// Each of the four, and each two of them.
		"[^]]":  allBut(']'),
		"[^[]":  allBut('['),
		"[^^]":  allBut('^'),
		"[^-]":  allBut('-'),
		"[][]":  leaf(']', '['),
		"[]^]":  leaf(']', '^'),
		"[]-]":  leaf(']', '-'),
		"[[^]":  leaf('[', '^'),
		"[[-]":  leaf('[', '-'),
		"[-^]":  leaf('^', '-'),
		"[^^-]": allBut('^', '-'),
		"[^[-]": allBut('[', '-'),
		"[^][]": allBut(']', '['),
		// More than two: only of '^' and '-' alone the '-' stands first.
		"[[^-]":   leaf('[', '^', '-'),
		"[]^-]":   leaf(']', '^', '-'),
		"[][-]":   leaf(']', '[', '-'),
		"[][^-]":  leaf(']', '[', '^', '-'),
		"[^][^-]": allBut(']', '[', '^', '-'),
		"[a^-]":   leaf('a', '^', '-'),
		"[a^]":    leaf('a', '^'),
		"[a-]":    leaf('a', '-'),
		"[^a^-]":  allBut('a', '^', '-'),
		// The four break rows.
		"[,-]":      leaf(',', '-'),
		"[.-]":      leaf('-', '.'),
		"[,.-]":     leaf(',', '-', '.'),
		"[+,./-]":   from('+', '/'),
		"[*-,.-]":   from('*', '.'),
		"[*-,]":     from('*', ','),
		"[Y[]":      leaf('Y', '['),
		"[Z\\[]":    from('Z', '\\'),
		"[YZ[]":     from('Y', '['),
		"[X-Z[]":    from('X', '['),
		"[]Z\\_[^]": from('Z', '_'),
		"[]\\]":     leaf('\\', ']'),
		"[]_^]":     from(']', '_'),
		"[_`^]":     from('^', '`'),
		"[_-a^]":    from('^', 'a'),
		// Rows of one byte, of two, and of more.
		"[ac]":       leaf('a', 'c'),
		"[ab]":       from('a', 'b'),
		"[a-d]":      from('a', 'd'),
		"[a-cx-z]":   leaf('z', 'a', 'y', 'b', 'x', 'c'),
		"[\x00\xff]": leaf(0, 255),
		// Marks outside of brackets are none in them.
		"[*.]":     leaf('.', '*'),
		"[$(-+{|]": leaf('(', ')', '*', '+', '{', '|', '$'),
		"[.[]":     leaf('.', '['),
		"[:[]":     leaf(':', '['),
		"[=[]":     leaf('=', '['),
		"[\n\r]":   leaf('\n', '\r'),
	} {
		hold(t, x, text, nil)
		hold(t, rep(group(1, x), 0, -1), "("+text+")*", nil)
	}
}

func TestP8_1EachTwoBytes(t *testing.T) {
	for n := range 256 {
		for k := range n {
			holdModel(t, leaf(byte(k), byte(n)))
			holdModel(t, allBut(byte(k), byte(n)))
			holdModel(t, from(k, n))
		}
	}
}

func TestP8_1SetsWithTheBytesThatMeanSomething(t *testing.T) {
	// Each subset of these, and what each leaves out.
	const near = "]^-[,.\\_Z+`Y"
	for choice := range 1 << len(near) {
		x := leaf()
		for i := range len(near) {
			if choice>>i&1 == 1 {
				x.Set[near[i]/64] |= 1 << (near[i] % 64)
			}
		}
		holdModel(t, x)
		for i := range x.Set {
			x.Set[i] = ^x.Set[i]
		}
		holdModel(t, x)
	}
	m := &maker{state: 3}
	for range 4000 {
		var x api.Node
		x.Kind = api.KindBytes
		for i := range x.Set {
			for range 4 {
				x.Set[i] = x.Set[i]<<16 | uint64(m.below(1<<16))
			}
		}
		holdModel(t, x)
	}
}

func TestP8_1Repeats(t *testing.T) {
	a := leaf('a')
	for text, counts := range map[string][2]int{
		"*": {0, -1}, "+": {1, -1}, "?": {0, 1}, "{0}": {0, 0}, "{1}": {1, 1}, "{2}": {2, 2}, "{255}": {255, 255}, "{2,}": {2, -1}, "{255,}": {255, -1},
		"{0,2}": {0, 2}, "{0,255}": {0, 255}, "{1,2}": {1, 2}, "{10,20}": {10, 20}, "{99,100}": {99, 100}, "{254,255}": {254, 255},
	} {
		hold(t, rep(a, counts[0], counts[1]), "a"+text, nil)
		hold(t, rep(leaf('*'), counts[0], counts[1]), `\*`+text, nil)
		hold(t, rep(leaf('a', 'b'), counts[0], counts[1]), "[ab]"+text, nil)
		hold(t, rep(group(1, a), counts[0], counts[1]), "(a)"+text, nil)
		hold(t, seq(rep(a, counts[0], counts[1]), a), "a"+text+"a", nil)
	}
	for least := range 256 {
		holdModel(t, rep(a, least, -1))
		for most := least; most < 256; most++ {
			holdModel(t, rep(a, least, most))
		}
	}
}

func TestP8_1WhatIsNotTidy(t *testing.T) {
	a := leaf('a')
	for _, x := range []api.Node{
		seq(empty(), a), seq(a, empty()), seq(a, empty(), a), seq(seq(a, a), a), seq(a, seq(a, a)), seq(alt(a, a), a), seq(a, a, alt(a, a)),
		alt(alt(a, a), a), alt(a, alt(a, a)), alt(a, a, alt(a, empty())),
		rep(empty(), 0, -1), rep(begin(), 0, -1), rep(end(), 1, 1), rep(seq(a, a), 0, 1), rep(alt(a, a), 2, 3), rep(rep(a, 0, -1), 0, -1), rep(rep(a, 1, 1), 0, 0),
		bare(a, -1), bare(a, 0), bare(a, 1), bare(group(1, a), 25), bare(a, 7),
	} {
		hold(t, x, "", api.ErrTree)
		for _, around := range []api.Node{group(1, x), rep(group(1, x), 0, 0), alt(empty(), a, group(1, x)), seq(a, rep(group(1, x), 2, -1)), seq(group(1, x), a)} {
			hold(t, numbered(around), "", api.ErrTree)
		}
	}
	// In a group these may stand.
	for _, x := range []api.Node{empty(), begin(), end(), a, seq(a, a), alt(a, a), rep(a, 0, -1), group(2, a)} {
		hold(t, group(1, x), "("+textOf(x)+")", nil)
		hold(t, rep(group(1, x), 0, -1), "("+textOf(x)+")*", nil)
		hold(t, seq(group(1, x), a), "("+textOf(x)+")a", nil)
		hold(t, alt(a, group(1, x)), "a|("+textOf(x)+")", nil)
	}
}

func TestP8_1NumbersOfGroups(t *testing.T) {
	a := leaf('a')
	for text, x := range map[string]api.Node{
		"(a)(a)":     seq(group(1, a), group(2, a)),
		"((a))":      group(1, group(2, a)),
		"(a)|(a)":    alt(group(1, a), group(2, a)),
		"((a)a)(a)":  seq(group(1, seq(group(2, a), a)), group(3, a)),
		"(a){0}(a)":  seq(rep(group(1, a), 0, 0), group(2, a)),
		"((a)*)+(a)": seq(rep(group(1, rep(group(2, a), 0, -1)), 1, -1), group(3, a)),
	} {
		hold(t, x, text, nil)
	}
	for _, x := range []api.Node{
		group(2, a), group(999, a), seq(group(2, a), group(1, a)), seq(group(1, a), group(1, a)), seq(group(1, a), group(3, a)),
		group(2, group(1, a)), group(1, group(1, a)), group(1, group(3, a)), alt(group(2, a), group(1, a)), alt(group(1, a), group(1, a)),
		seq(group(1, seq(group(3, a), a)), group(2, a)), seq(rep(group(1, a), 0, 0), group(1, a)), rep(group(2, a), 0, 0), seq(group(2, a), group(3, a)),
	} {
		hold(t, x, "", api.ErrTree)
	}
	many := make([]api.Node, 341)
	for i := range many {
		many[i] = group(i+1, a)
	}
	hold(t, seq(many...), strings.Repeat("(a)", 341), nil)
	many[340].Num = 342
	hold(t, seq(many...), "", api.ErrTree)
	all := make([]api.Node, 998)
	for i := range all {
		all[i] = group(i+1, empty())
	}
	hold(t, seq(all...), "", api.ErrLong)
}

func TestP8_1WhatIsNotInForm(t *testing.T) {
	a := leaf('a')
	with := func(x api.Node, change func(*api.Node)) api.Node {
		change(&x)
		return x
	}
	for _, x := range []api.Node{
		{}, node(9), node(-1), node(api.KindSeq), seq(a), node(api.KindAlt), alt(a), node(api.KindGroup), node(api.KindRep), group(0, a), group(-1, a), group(1000, a),
		{Kind: api.KindGroup, Num: 1, Subs: some(a, a)}, {Kind: api.KindRep, Max: -1, Subs: some(a, a)}, node(api.KindEmpty, a), node(api.KindBytes, a),
		rep(a, 2, 1), rep(a, -1, 1), rep(a, 0, -2), rep(a, 0, 256), rep(a, 256, -1), rep(a, math.MaxInt, math.MaxInt), rep(a, math.MinInt, -1),
		with(rep(a, 1, 2), func(x *api.Node) { x.Bare = true }), with(a, func(x *api.Node) { x.Bare = true }), with(a, func(x *api.Node) { x.Num = 1 }),
		with(empty(), func(x *api.Node) { x.Set[0] = 1 }), with(begin(), func(x *api.Node) { x.Max = -1 }), with(seq(a, a), func(x *api.Node) { x.Num = 1 }),
	} {
		hold(t, x, "", api.ErrTree)
		hold(t, seq(a, x), "", api.ErrTree)
		hold(t, rep(group(1, x), 0, 0), "", api.ErrTree)
		hold(t, rep(x, 1, -1), "", api.ErrTree)
	}
}

// tower puts a repeat and a group around the tree, n times: each time it is two deeper.
func tower(n int, x api.Node) api.Node {
	for range n {
		x = rep(group(0, x), 0, -1)
	}
	return numbered(x)
}

func TestP8_1WhichErrorIsFirst(t *testing.T) {
	a := leaf('a')
	untidy := bare(a, 1)
	great := rep(group(1, rep(group(2, a), 255, 255)), 8, 8)
	for _, c := range []struct {
		name string
		tree api.Node
		want error
	}{
		{"at the depth's bound", tower(99, seq(a, a)), api.ErrNest},
		{"too deep", tower(100, a), api.ErrDeep},
		{"too deep and not tidy", tower(100, untidy), api.ErrDeep},
		{"too deep and too great", seq(tower(100, a), great), api.ErrDeep},
		{"too deep and not in form", seq(tower(100, a), rep(a, 2, 1)), api.ErrTree},
		{"too great", great, api.ErrTooBig},
		{"too great and not tidy", seq(great, untidy), api.ErrTooBig},
		{"too great and nested too much", numbered(seq(great, nest(33, a))), api.ErrTooBig},
		{"too great and not in form", seq(great, group(0, a)), api.ErrTree},
		{"too great where it doesn't count", rep(numbered(group(1, great)), 0, 0), nil},
		{"not tidy and nested too much", seq(nest(33, a), untidy), api.ErrTree},
		{"wrong numbers, nested too much", nest(33, group(33, a)), api.ErrTree},
		{"not tidy and too long", seq(a, row(1024, a)), api.ErrTree},
		{"nested too much and too long", seq(append(some(nest(33, a)), row(1025, a).Subs...)...), api.ErrNest},
		{"long and too great", row(2000, a), api.ErrTooBig},
		{"long at the size's bound", row(1999, a), api.ErrLong},
	} {
		text := ""
		if c.want == nil {
			text = textOf(c.tree)
		}
		t.Run(c.name, func(t *testing.T) { hold(t, c.tree, text, c.want) })
	}
}

func TestP8_1Nesting(t *testing.T) {
	a := leaf('a')
	within := func(n int) string { return strings.Repeat("(", n) + "a" + strings.Repeat(")", n) }
	for n := range 33 {
		hold(t, nest(n, a), within(n), nil)
	}
	deep := nest(32, a)
	hold(t, numbered(seq(deep, deep)), within(32)+within(32), nil)
	hold(t, numbered(alt(deep, a, deep)), within(32)+"|a|"+within(32), nil)
	hold(t, rep(deep, 0, 0), within(32)+"{0}", nil)
	for n := 33; n < 99; n += 11 {
		deep = nest(n, a)
		hold(t, deep, "", api.ErrNest)
		hold(t, numbered(seq(a, deep)), "", api.ErrNest)
		hold(t, numbered(seq(deep, group(1, a))), "", api.ErrNest)
		hold(t, numbered(alt(group(1, a), deep)), "", api.ErrNest)
		hold(t, rep(deep, 0, 0), "", api.ErrNest)
		hold(t, tower(n, a), "", api.ErrNest)
	}
	hold(t, tower(32, a), strings.Repeat("(", 32)+"a"+strings.Repeat(")*", 32), nil)
}

func TestP8_1Lengths(t *testing.T) {
	a, mark := leaf('a'), leaf('*')
	hold(t, row(1024, a), strings.Repeat("a", 1024), nil)
	hold(t, row(1025, a), "", api.ErrLong)
	hold(t, row(512, mark), strings.Repeat(`\*`, 512), nil)
	hold(t, row(513, mark), "", api.ErrLong)
	hold(t, seq(append(row(512, mark).Subs, a)...), "", api.ErrLong)
	hold(t, row(204, leaf('a', 'b', 'c')), strings.Repeat("[a-c]", 204), nil)
	hold(t, row(205, leaf('a', 'b', 'c')), "", api.ErrLong)
	hold(t, alt(slices.Repeat(some(empty()), 1025)...), strings.Repeat("|", 1024), nil)
	hold(t, alt(slices.Repeat(some(empty()), 1026)...), "", api.ErrLong)
	hold(t, rep(group(1, row(1019, a)), 0, 0), "("+strings.Repeat("a", 1019)+"){0}", nil)
	hold(t, rep(group(1, row(1020, a)), 0, 0), "", api.ErrLong)
	// What counts as one node may have any number of them.
	hold(t, rep(group(1, row(100000, a)), 0, 0), "", api.ErrLong)
}

func TestP8_1SmallTrees(t *testing.T) {
	tidy := 0
	for _, x := range small() {
		holdModel(t, x)
		if isTidy(x) {
			tidy++
		}
	}
	if tidy < 1000 {
		t.Errorf("only %d tidy trees", tidy)
	}
}

func TestP8_1TreesOfAllSorts(t *testing.T) {
	m := &maker{state: 17}
	tidy, other := 0, 0
	for range 6000 {
		x := m.tidy(m.below(6))
		holdModel(t, x)
		if isTidy(x) {
			tidy++
		}
		x = m.changed(x)
		holdModel(t, x)
		if !isTidy(x) {
			other++
		}
	}
	if tidy < 4000 || other < 3000 {
		t.Errorf("only %d tidy trees, %d others", tidy, other)
	}
}

// flagsTried are those with Extended and without it, with all bits that are nothing to Quote.
func flagsTried() []int {
	return []int{0, 1, 2, 3, 4, 5, 8, 9, 14, 15, 16, -1, -2, math.MaxInt, math.MinInt}
}

func quoted(s string, flags int) string {
	marks := basicMarks
	if flags&1 == 1 {
		marks = extendedMarks
	}
	want := ""
	for i := range len(s) {
		want += byteText(s[i], marks)
	}
	return want
}

func TestP8_1Quote(t *testing.T) {
	for _, flags := range flagsTried() {
		for n := range 256 {
			s := string([]byte{byte(n)})
			for _, s := range []string{s, "x" + s, s + s, s + "x" + s, "\\" + s} {
				if got := spell.Quote(s, flags); got != quoted(s, flags) {
					t.Errorf("Quote(%q, %d) = %q", s, flags, got)
				}
			}
		}
		for _, s := range []string{"", "é\xff\x00\n", "a|b", "[a-z]{2}\\", `\(a\)\{1\}`, "^a$", "]}-,"} {
			if got := spell.Quote(s, flags); got != quoted(s, flags) {
				t.Errorf("Quote(%q, %d) = %q", s, flags, got)
			}
		}
	}
	if got := spell.Quote(`.[()*+?{|^$\]})`, 1); got != `\.\[\(\)\*\+\?\{\|\^\$\\]}\)` {
		t.Errorf("Quote of the marks, Extended: %q", got)
	}
	if got := spell.Quote(`.[()*+?{|^$\]})`, 0); got != `\.\[()\*+?{|\^\$\\]})` {
		t.Errorf("Quote of the marks: %q", got)
	}
	// A text of any length is quoted.
	if got := spell.Quote(strings.Repeat("a.", 100000), 0); got != strings.Repeat(`a\.`, 100000) {
		t.Errorf("Quote of a long text has %d bytes", len(got))
	}
}

// holdRead holds what chapter 6 reads of the text of a tree against that tree.
func holdRead(t *testing.T, x api.Node, text string) {
	t.Helper()
	got, groups, err := ere.Parse(text, 0)
	if err != nil || groups != tree.Groups(x) || !tree.Same(got, x) {
		t.Errorf("Parse(%q) = %s, %d, %v, spelled of %s", text, show(got), groups, err, show(x))
	}
}

// hidesTooMuch tells whether a repeat of no round has more nodes below it than a right tree.
func hidesTooMuch(x api.Node) bool {
	for _, n := range all(x) {
		if n.Kind == api.KindRep && n.Max == 0 && tree.Size(n.Subs[0]) > api.MaxSize {
			return true
		}
	}
	return false
}

func TestP8_2ReadAgain(t *testing.T) {
	read := 0
	var list []api.Node
	m := &maker{state: 29}
	for range 6000 {
		list = append(list, m.tidy(m.below(8)))
	}
	list = append(list, small()...)
	list = append(list, nest(32, leaf('a')), tower(32, seq(leaf(), begin())), row(1024, leaf('a')), rep(leaf('a'), 255, 255), rep(leaf('a'), 0, 255))
	for _, x := range list {
		text, err := spell.Ere(x)
		if err != nil || hidesTooMuch(x) {
			continue
		}
		read++
		holdRead(t, x, text)
	}
	if read < 6000 {
		t.Errorf("only %d trees", read)
	}
}

func TestP8_2SetsReadAgain(t *testing.T) {
	for n := range 256 {
		for k := range n + 1 {
			for _, x := range []api.Node{leaf(byte(k), byte(n)), allBut(byte(k), byte(n)), from(k, n), allBut(scattered(k, n)...)} {
				text, err := spell.Ere(x)
				if err != nil {
					t.Fatal(show(x), err)
				}
				holdRead(t, x, text)
			}
		}
	}
}

// scattered are the bytes from k to n but for every fifth one.
func scattered(k, n int) []byte {
	var list []byte
	for b := k; b <= n; b++ {
		if b%5 != 0 {
			list = append(list, byte(b))
		}
	}
	return list
}

func TestP8_2TooGreatBelowARepeatOfNone(t *testing.T) {
	a := leaf('a')
	x := rep(group(1, rep(group(2, rep(a, 255, 255)), 8, 8)), 0, 0)
	hold(t, x, "((a{255}){8}){0}", nil)
	if got, groups, err := ere.Parse("((a{255}){8}){0}", 0); !errors.Is(err, api.ErrTooBig) || groups != 0 || !tree.Same(got, api.Node{}) {
		t.Errorf("Parse = %s, %d, %v", show(got), groups, err)
	}
	// The group of the repeat below is at the bound: 1 + 1 + 6 * (1 + 1 + 256 + 75) nodes are 2000.
	x = rep(group(1, rep(group(2, seq(slices.Concat(some(rep(a, 255, 255)), row(75, a).Subs)...)), 6, 6)), 0, 0)
	if size := tree.Size(x.Subs[0]); size != api.MaxSize {
		t.Fatal(size)
	}
	hold(t, x, "((a{255}"+strings.Repeat("a", 75)+"){6}){0}", nil)
	holdRead(t, x, "((a{255}"+strings.Repeat("a", 75)+"){6}){0}")
}

// patterns are all short ones of these parts.
func patterns() []string {
	return append(
		made("", 4, []string{"a", "b", "(", ")", "|", "*", "+", "?", "{0}", "{1}", "{2,}", "{1,2}", "^", "$", ".", "[ab]", "[^a]"}),
		made("", 5, []string{"(", ")", "|", "*", "a", "[[:punct:]-a]", `\-`, "]", "{00}"})...,
	)
}

func TestP8_2WhatIsReadIsTidy(t *testing.T) {
	read := 0
	for _, p := range patterns() {
		x, _, err := ere.Parse(p, 0)
		if err != nil {
			continue
		}
		read++
		text, err := spell.Ere(x)
		if !spell.Tidy(x) || err != nil {
			t.Fatalf("of %q: Tidy %v, Ere %v", p, spell.Tidy(x), err)
		}
		holdRead(t, x, text)
	}
	if read < 20000 {
		t.Errorf("only %d patterns", read)
	}
	for _, p := range []string{strings.Repeat("(", 32) + strings.Repeat(")*", 32), strings.Repeat("()", 512), "(a{255}){7}", strings.Repeat("|", 1024), strings.Repeat("[[:punct:]]", 90)} {
		x, _, err := ere.Parse(p, 0)
		if err != nil || !spell.Tidy(x) {
			t.Errorf("of %.40q: %v, Tidy %v", p, err, spell.Tidy(x))
		}
	}
}

func TestP8_2NoTwoTreesOfOneText(t *testing.T) {
	of := map[string]api.Node{}
	hold := func(x api.Node) {
		text, err := spell.Ere(x)
		if err != nil {
			return
		}
		other, ok := of[text]
		if ok && !tree.Same(x, other) {
			t.Errorf("%q is the text of %s and of %s", text, show(x), show(other))
		}
		of[text] = x
	}
	for _, x := range small() {
		hold(x)
	}
	m := &maker{state: 31}
	for range 20000 {
		hold(m.tidy(m.below(3)))
		hold(m.set())
	}
	if len(of) < 10000 {
		t.Errorf("only %d texts", len(of))
	}
}

// texts are all of up to three bytes that may mean something in a pattern, each byte, and longer ones.
func texts() []string {
	const bytes = ".[()*+?{|^$\\]}-,:1an\n\x00\xff"
	var parts []string
	for i := range len(bytes) {
		parts = append(parts, bytes[i:i+1])
	}
	list := made("", 3, parts)
	for n := range 256 {
		list = append(list, string([]byte{byte(n)}), string([]byte{'a', byte(n), '*'}))
	}
	m := &maker{state: 41}
	for range 500 {
		text := make([]byte, m.below(900))
		for i := range text {
			text[i] = byte(m.below(256))
			if m.below(2) == 0 {
				text[i] = bytes[m.below(len(bytes))]
			}
		}
		list = append(list, string(text))
	}
	return append(list, strings.Repeat("a", 1024), strings.Repeat("*", 512), `\(a\)\{1\}`, "[[:alpha:]]", "a{2,3}", "^*ab*$")
}

func TestP8_3QuotedTextIsRead(t *testing.T) {
	for _, s := range texts() {
		want := tree.Text(s)
		if p := spell.Quote(s, api.Extended); len(p) <= api.MaxPattern {
			got, groups, err := ere.Parse(p, 0)
			if err != nil || groups != 0 || !tree.Same(got, want) {
				t.Errorf("ere.Parse(%q) = %s, %d, %v", p, show(got), groups, err)
			}
		}
		if p := spell.Quote(s, 0); len(p) <= api.MaxPattern {
			got, groups, err := bre.Parse(p, 0)
			if err != nil || groups != 0 || !tree.Same(got, want) {
				t.Errorf("bre.Parse(%q) = %s, %d, %v", p, show(got), groups, err)
			}
		}
	}
}
