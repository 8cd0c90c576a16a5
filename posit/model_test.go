package posit_test

import (
	"fmt"
	"maps"
	"math"
	"math/rand"
	"slices"

	"trawl/api"
	"trawl/ere"
	"trawl/scene"
)

// The means of the tests: they lay trees themselves, and tell the chapter's table a second time, over maps, so that they share nothing with the package.

func node(kind int, subs ...api.Node) api.Node {
	return api.Node{Kind: kind, Subs: subs}
}

func leaf(b byte) api.Node {
	t := node(api.KindBytes)
	t.Set = only(b)
	return t
}

// only is the set of these bytes.
func only(list ...byte) api.Set {
	var s api.Set
	for _, b := range list {
		s[b/64] |= 1 << (b % 64)
	}
	return s
}

func seq(subs ...api.Node) api.Node { return node(api.KindSeq, subs...) }

func alt(subs ...api.Node) api.Node { return node(api.KindAlt, subs...) }

func group(num int, subs ...api.Node) api.Node {
	t := node(api.KindGroup, subs...)
	t.Num = num
	return t
}

func rep(sub api.Node, least, most int) api.Node {
	t := node(api.KindRep, sub)
	t.Min, t.Max = least, most
	return t
}

func bare(sub api.Node, most int) api.Node {
	t := rep(sub, 0, most)
	t.Bare = true
	return t
}

// row is a KindSeq of n leaves of bytes that rise, so its size is one more.
func row(n int) api.Node {
	t := seq()
	for i := range n {
		t.Subs = append(t.Subs, leaf(byte(i)))
	}
	return t
}

// nest lays n nodes around a tree, each made of the one within it.
func nest(n int, t api.Node, around func(api.Node) api.Node) api.Node {
	for range n {
		t = around(t)
	}
	return t
}

func inGroup(t api.Node) api.Node { return group(1, t) }

func starred(t api.Node) api.Node { return rep(t, 0, -1) }

// edges are written as pairs of a position and ways.
func edges(pairs ...int) []api.Edge {
	var list []api.Edge
	for i := 0; i < len(pairs); i += 2 {
		list = append(list, api.Edge{To: pairs[i], Ways: pairs[i+1]})
	}
	return list
}

// told writes any value with all of its fields; empty lists and nil ones alike.
func told(value any) string { return fmt.Sprint(value) }

// model is the chapter told a second time: null, firsts and lasts of each node by its Subs, follow by each two Subs of a row.
type model struct {
	sets   []api.Set
	follow []map[int]int
}

// wanted answers the posits of an expansion.
func wanted(x api.Node) api.Posits {
	m := &model{}
	null, first, last := m.of(x)
	p := api.Posits{Sets: m.sets, Null: null, First: rising(first), Last: rising(last)}
	for _, to := range m.follow {
		p.Follow = append(p.Follow, rising(to))
	}
	return p
}

func (m *model) of(t api.Node) (null int, first, last map[int]int) {
	first, last = map[int]int{}, map[int]int{}
	switch t.Kind {
	case api.KindEmpty:
		return 15, first, last
	case api.KindBegin:
		return 10, first, last
	case api.KindEnd:
		return 12, first, last
	case api.KindBytes:
		p := len(m.sets)
		m.sets, m.follow = append(m.sets, t.Set), append(m.follow, map[int]int{})
		first[p], last[p] = 15, 15
		return 0, first, last
	}
	var nulls []int
	var firsts, lasts []map[int]int
	for _, sub := range t.Subs {
		n, f, l := m.of(sub)
		nulls, firsts, lasts = append(nulls, n), append(firsts, f), append(lasts, l)
	}
	switch t.Kind {
	case api.KindAlt:
		for i := range t.Subs {
			null |= nulls[i]
			join(first, firsts[i], 15)
			join(last, lasts[i], 15)
		}
	case api.KindGroup:
		return nulls[0], firsts[0], lasts[0]
	case api.KindSeq:
		for i := range t.Subs {
			join(first, firsts[i], meet(nulls[:i]))
			join(last, lasts[i], meet(nulls[i+1:]))
			for j := i + 1; j < len(t.Subs); j++ {
				m.lead(lasts[i], firsts[j], meet(nulls[i+1:j]))
			}
		}
		null = meet(nulls)
	case api.KindRep:
		if t.Max == -1 {
			m.lead(lasts[0], firsts[0], 15)
		}
		return 15, firsts[0], lasts[0]
	}
	return null, first, last
}

// lead joins to follow the ways from the lasts to the firsts, by these ones between.
func (m *model) lead(lasts, firsts map[int]int, between int) {
	for p, l := range lasts {
		join(m.follow[p], firsts, l&between)
	}
}

func meet(nulls []int) int {
	all := 15
	for _, n := range nulls {
		all &= n
	}
	return all
}

func join(to, from map[int]int, ways int) {
	for p, w := range from {
		to[p] |= w & ways
	}
}

// rising answers what has ways, by the positions.
func rising(to map[int]int) []api.Edge {
	var list []api.Edge
	for _, p := range slices.Sorted(maps.Keys(to)) {
		if to[p] != 0 {
			list = append(list, api.Edge{To: p, Ways: to[p]})
		}
	}
	return list
}

// formed tells whether posits are in form, by the chapter's words one by one.
func formed(p api.Posits) bool {
	positions := map[int]bool{}
	for i := range p.Sets {
		positions[i] = true
	}
	if len(p.Follow) != len(p.Sets) || p.Null < 0 || 15 < p.Null {
		return false
	}
	for _, list := range append([][]api.Edge{p.First, p.Last}, p.Follow...) {
		var to []int
		for _, e := range list {
			if e.Ways < 1 || 15 < e.Ways || !positions[e.To] || slices.Contains(to, e.To) {
				return false
			}
			to = append(to, e.To)
		}
		if !slices.IsSorted(to) {
			return false
		}
	}
	return true
}

// leaves counts the KindBytes of a tree.
func leaves(t api.Node) int {
	n := 0
	if t.Kind == api.KindBytes {
		n++
	}
	for _, sub := range t.Subs {
		n += leaves(sub)
	}
	return n
}

// over answers the places to which posits lead over a piece from a place on, by the words of P17.3.
func over(p api.Posits, x *scene.Scene, from int) []int {
	open := func(ways, place int) bool { return ways>>x.Marks(place)&1 == 1 }
	var ends []int
	if open(p.Null, from) {
		ends = append(ends, from)
	}
	led := p.First
	for i := from; i < x.Len(); i++ {
		b, _ := x.Byte(i)
		gone := map[int]bool{}
		for _, e := range led {
			if open(e.Ways, i) && p.Sets[e.To][b/64]>>(b%64)&1 == 1 {
				gone[e.To] = true
			}
		}
		led = nil
		for q := range gone {
			led = append(led, p.Follow[q]...)
		}
		if slices.ContainsFunc(p.Last, func(e api.Edge) bool { return gone[e.To] && open(e.Ways, i+1) }) {
			ends = append(ends, i+1)
		}
	}
	return ends
}

// small answers all trees of at most this many nodes in one another, of a few leaves, with two Subs at each Seq and each Alt.
func small(most int) []api.Node {
	list := []api.Node{node(api.KindEmpty), node(api.KindBegin), node(api.KindEnd), leaf('a'), leaf('b')}
	if most == 1 {
		return list
	}
	subs := small(most - 1)
	for _, s := range subs {
		list = append(list, group(1, s), rep(s, 0, 1), rep(s, 0, -1), bare(s, 1), bare(s, -1), rep(s, 1, -1), rep(s, 2, 3), rep(s, 0, 0))
		for _, other := range subs {
			list = append(list, seq(s, other), alt(s, other))
		}
	}
	return list
}

// patterns are the trees of all extended patterns of at most so many of these words.
func patterns(words []string, most int) []api.Node {
	var made []api.Node
	longest := []string{""}
	for range most {
		var next []string
		for _, p := range longest {
			for _, w := range words {
				next = append(next, p+w)
			}
		}
		for _, p := range next {
			if n, _, err := ere.Parse(p, 0); err == nil {
				made = append(made, n)
			}
		}
		longest = next
	}
	return made
}

// maker makes trees and posits by chance, the same ones each time.
type maker struct{ *rand.Rand }

func newMaker(seed int) maker {
	return maker{rand.New(rand.NewSource(int64(seed)))}
}

func (m maker) pick(list ...int) int {
	return list[m.Intn(len(list))]
}

// inForm makes a tree in form, with at most this many nodes in one another.
func (m maker) inForm(most int) api.Node {
	kind := m.pick(1, 2, 2, 3, 4, 5, 5, 5, 5, 6, 6, 7, 7, 8, 8, 8)
	if most == 1 {
		kind = m.pick(1, 2, 2, 2, 2, 2, 3, 4)
	}
	switch kind {
	case 2:
		t := leaf("ab"[m.Intn(2)])
		if m.Intn(4) == 0 {
			t.Set = only('a', 'b', '\n')
		}
		return t
	case 5, 6:
		t := node(kind)
		for range 2 + m.Intn(3) {
			t.Subs = append(t.Subs, m.inForm(most-1))
		}
		return t
	case 7:
		return group(1+m.Intn(999), m.inForm(most-1))
	case 8:
		least := m.pick(0, 0, 0, 1, 1, 2, 3)
		t := rep(m.inForm(most-1), least, m.pick(-1, least, least+1, least+2))
		t.Bare = least == 0 && m.Intn(2) == 0
		return t
	}
	return node(kind)
}

// loose makes any tree: whatever kind, numbers and Subs.
func (m maker) loose(most int) api.Node {
	number := func() int {
		return m.pick(0, 0, 0, 0, 0, 0, 1, 2, -1, -7, 255, 256, 999, 1000, math.MaxInt, math.MinInt)
	}
	t := node(m.pick(0, 1, 2, 3, 3, 4, 4, 5, 5, 5, 6, 7, 8, 9, -1, -5, math.MaxInt, math.MinInt))
	t.Num, t.Min, t.Max, t.Bare = number(), number(), number(), m.Intn(9) == 0
	t.Set[m.Intn(4)] = m.Uint64() * uint64(m.Intn(2))
	if most > 1 {
		for range m.Intn(5) {
			t.Subs = append(t.Subs, m.loose(most-1))
		}
	}
	return t
}

// someInForm answers many trees in form, most of them right.
func someInForm() []api.Node {
	list := append(small(2), patterns([]string{"a", "b", "^", "$", "(", ")", "|", "*", "?", "{2}", "{0,2}"}, 4)...)
	for most := 1; most <= 7; most++ {
		for i := range 200 {
			list = append(list, newMaker(1000*most+i).inForm(most))
		}
	}
	return list
}

// posits makes posits in form, mostly such as no tree has.
func (m maker) posits() api.Posits {
	n := m.Intn(5)
	list := func() []api.Edge {
		var made []api.Edge
		for to := range n {
			if m.Intn(2) == 0 {
				made = append(made, api.Edge{To: to, Ways: 1 + m.Intn(15)})
			}
		}
		return made
	}
	p := api.Posits{Null: m.Intn(16), First: list(), Last: list()}
	for range n {
		p.Sets = append(p.Sets, api.Set{m.Uint64(), 0, m.Uint64(), 1})
		p.Follow = append(p.Follow, list())
	}
	return p
}

// spoilt answers the posits with one thing changed, which may put them out of form.
func (m maker) spoilt(p api.Posits) api.Posits {
	lists := []*[]api.Edge{&p.First, &p.Last}
	for i := range p.Follow {
		lists = append(lists, &p.Follow[i])
	}
	list := lists[m.Intn(len(lists))]
	number := m.pick(-1, 0, 1, 2, 4, 5, 14, 15, 16, 31, 255, math.MaxInt, math.MinInt)
	switch m.Intn(8) {
	case 0:
		p.Null = number
	case 1:
		p.Sets = append(p.Sets, api.Set{})
	case 2:
		p.Follow = append(p.Follow, nil)
	case 3:
		p.Follow = p.Follow[:len(p.Follow)/2]
	case 4:
		*list = append(*list, api.Edge{To: m.pick(0, 1, 2, 3, 4, number), Ways: 1 + m.Intn(15)})
	case 5:
		slices.Reverse(*list)
	case 6:
		if len(*list) > 0 {
			(*list)[m.Intn(len(*list))].Ways = number
		}
	case 7:
		if len(*list) > 0 {
			(*list)[m.Intn(len(*list))].To = number
		}
	}
	return p
}
