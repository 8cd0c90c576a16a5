package turn_test

import (
	"fmt"
	"math"
	"math/rand"
	"slices"
	"strings"

	"trawl/api"
	"trawl/ere"
)

// The means of the tests: they lay trees themselves, and tell turned trees as texts, so that they share nothing with the package.

func node(kind int, subs ...api.Node) api.Node {
	return api.Node{Kind: kind, Subs: subs}
}

func leaf(b byte) api.Node {
	t := node(api.KindBytes)
	t.Set[b/64] += 1 << (b % 64)
	return t
}

func seq(subs ...api.Node) api.Node { return node(api.KindSeq, subs...) }

func alt(subs ...api.Node) api.Node { return node(api.KindAlt, subs...) }

func group(num int, subs ...api.Node) api.Node {
	t := node(api.KindGroup, subs...)
	t.Num = num
	return t
}

func rep(sub api.Node, least, most int) api.Node {
	t := node(api.KindRep, sub)
	t.Min, t.Max = least, most
	return t
}

func bare(sub api.Node, most int) api.Node {
	t := rep(sub, 0, most)
	t.Bare = true
	return t
}

// row is a KindSeq of n leaves of bytes that rise, so its size is one more.
func row(n int) api.Node {
	t := seq()
	for i := range n {
		t.Subs = append(t.Subs, leaf(byte(i)))
	}
	return t
}

// nest lays n nodes around a tree, each made of the one within it.
func nest(n int, t api.Node, around func(api.Node) api.Node) api.Node {
	for range n {
		t = around(t)
	}
	return t
}

func inGroup(t api.Node) api.Node { return group(1, t) }

func behindA(t api.Node) api.Node { return seq(leaf('a'), t) }

// clone is a tree with lists of its own, kept to hold against what a call may have changed.
func clone(t api.Node) api.Node {
	t.Subs = slices.Clone(t.Subs)
	for i, sub := range t.Subs {
		t.Subs[i] = clone(sub)
	}
	return t
}

// told writes all fields of any tree.
func told(t api.Node) string {
	var text strings.Builder
	tell(&text, t, false)
	return text.String()
}

// toldTurned writes the turned tree of any tree, without making it.
func toldTurned(t api.Node) string {
	var text strings.Builder
	tell(&text, t, true)
	return text.String()
}

func tell(text *strings.Builder, t api.Node, turned bool) {
	kind := t.Kind
	if turned && kind == 3 {
		kind = 4
	} else if turned && kind == 4 {
		kind = 3
	}
	fmt.Fprint(text, kind)
	if t.Set != (api.Set{}) {
		fmt.Fprintf(text, " %x", t.Set)
	}
	if t.Num != 0 || t.Min != 0 || t.Max != 0 || t.Bare {
		fmt.Fprint(text, " ", t.Num, " ", t.Min, " ", t.Max, " ", t.Bare)
	}
	text.WriteString("(")
	for i := range t.Subs {
		if turned && kind == 5 {
			i = len(t.Subs) - 1 - i
		}
		tell(text, t.Subs[i], turned)
	}
	text.WriteString(")")
}

// slots counts each place of the lists, spare room too, by its address.
func slots(lists ...[]api.Node) map[*api.Node]int {
	found := map[*api.Node]int{}
	var add func(list []api.Node)
	add = func(list []api.Node) {
		whole := list[:cap(list)]
		for i := range whole {
			found[&whole[i]]++
		}
		for _, t := range list {
			add(t.Subs)
		}
	}
	for _, list := range lists {
		add(list)
	}
	return found
}

// small answers all trees of at most this many nodes in one another, of a few leaves, with two Subs at each Seq and each Alt.
func small(most int) []api.Node {
	list := []api.Node{node(api.KindEmpty), node(api.KindBegin), node(api.KindEnd), leaf('a'), leaf('b')}
	if most == 1 {
		return list
	}
	subs := small(most - 1)
	for _, s := range subs {
		list = append(list, group(1, s), rep(s, 0, 1), rep(s, 0, -1), bare(s, 1), bare(s, -1), rep(s, 1, -1), rep(s, 2, 3), rep(s, 0, 0))
		for _, other := range subs {
			list = append(list, seq(s, other), alt(s, other))
		}
	}
	return list
}

// patterns are the trees of all extended patterns of at most so many of these words.
func patterns(words []string, most int) []api.Node {
	var made []api.Node
	longest := []string{""}
	for range most {
		var next []string
		for _, p := range longest {
			for _, w := range words {
				next = append(next, p+w)
			}
		}
		for _, p := range next {
			if n, _, err := ere.Parse(p, 0); err == nil {
				made = append(made, n)
			}
		}
		longest = next
	}
	return made
}

// maker makes trees by chance, the same ones each time.
type maker struct{ *rand.Rand }

func newMaker(seed int) maker {
	return maker{rand.New(rand.NewSource(int64(seed)))}
}

func (m maker) pick(list ...int) int {
	return list[m.Intn(len(list))]
}

// inForm makes a tree in form, with at most this many nodes in one another.
func (m maker) inForm(most int) api.Node {
	kind := m.pick(1, 2, 2, 3, 4, 5, 5, 5, 5, 6, 6, 7, 7, 8, 8, 8)
	if most == 1 {
		kind = m.pick(1, 2, 2, 2, 2, 3, 4)
	}
	switch kind {
	case 2:
		t := leaf("ab"[m.Intn(2)])
		if m.Intn(4) == 0 {
			t.Set[1] |= leaf('b').Set[1]
		}
		return t
	case 5, 6:
		t := node(kind)
		for range 2 + m.Intn(3) {
			t.Subs = append(t.Subs, m.inForm(most-1))
		}
		return t
	case 7:
		return group(1+m.Intn(999), m.inForm(most-1))
	case 8:
		least := m.pick(0, 0, 0, 1, 1, 2, 3)
		t := rep(m.inForm(most-1), least, m.pick(-1, least, least+1, least+2))
		t.Bare = least == 0 && m.Intn(2) == 0
		return t
	}
	return node(kind)
}

// loose makes any tree: whatever kind, numbers and Subs.
func (m maker) loose(most int) api.Node {
	number := func() int {
		return m.pick(0, 0, 0, 1, 2, -1, -7, 255, 256, 999, 1000, math.MaxInt, math.MinInt)
	}
	t := node(m.pick(0, 1, 2, 3, 3, 4, 4, 5, 5, 5, 6, 7, 8, 9, -1, -5, math.MaxInt, math.MinInt))
	t.Num, t.Min, t.Max, t.Bare = number(), number(), number(), m.Intn(4) == 0
	t.Set[m.Intn(4)] = m.Uint64() * uint64(m.Intn(2))
	if most > 1 {
		for range m.Intn(5) {
			t.Subs = append(t.Subs, m.loose(most-1))
		}
	}
	return t
}

// someInForm answers many trees in form, most of them right.
func someInForm() []api.Node {
	list := append(small(2), patterns([]string{"a", "b", "^", "$", "(", ")", "|", "*", "{2}", "{0,2}"}, 4)...)
	for most := 1; most <= 7; most++ {
		for i := range 150 {
			list = append(list, newMaker(1000*most+i).inForm(most))
		}
	}
	return list
}

// someLoose answers many trees, few of them in form.
func someLoose() []api.Node {
	var list []api.Node
	for i := range 4000 {
		list = append(list, newMaker(i).loose(1+i%5))
	}
	return list
}
