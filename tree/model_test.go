package tree_test

import (
	"math"
	"slices"

	"trawl/api"
)

// The means of the tests: they share none with the package, but that both lay api.Node.

func node(kind int, subs ...api.Node) api.Node {
	return api.Node{Kind: kind, Subs: subs}
}

func leaf(b byte) api.Node {
	t := node(api.KindBytes)
	t.Set[b/64] += 1 << (b % 64)
	return t
}

func group(num int, sub api.Node) api.Node {
	t := node(api.KindGroup, sub)
	t.Num = num
	return t
}

func rep(sub api.Node, least, most int) api.Node {
	t := node(api.KindRep, sub)
	t.Min, t.Max = least, most
	return t
}

func bare(sub api.Node, most int) api.Node {
	t := rep(sub, 0, most)
	t.Bare = true
	return t
}

// row is a KindSeq of n leaves, so its size is one more.
func row(n int) api.Node {
	t := node(api.KindSeq)
	for i := range n {
		t.Subs = append(t.Subs, leaf(byte(i)))
	}
	return t
}

// nest puts n KindGroups around a tree.
func nest(n int, t api.Node) api.Node {
	for range n {
		t = group(1, t)
	}
	return t
}

// clone is a tree with lists of its own, kept to hold against what a call may have changed.
func clone(t api.Node) api.Node {
	t.Subs = slices.Clone(t.Subs)
	for i, sub := range t.Subs {
		t.Subs[i] = clone(sub)
	}
	return t
}

// alike tells whether two trees are the same; an empty list and a nil one are.
func alike(a, b api.Node) bool {
	if len(a.Subs) != len(b.Subs) {
		return false
	}
	for i := range a.Subs {
		if !alike(a.Subs[i], b.Subs[i]) {
			return false
		}
	}
	return a.Kind == b.Kind && a.Set == b.Set && a.Num == b.Num && a.Min == b.Min && a.Max == b.Max && a.Bare == b.Bare
}

// all answers the nodes of a tree, each by its address, the tree's own first.
func all(t *api.Node) []*api.Node {
	list := []*api.Node{t}
	for i := range t.Subs {
		list = append(list, all(&t.Subs[i])...)
	}
	return list
}

// expansion lays the expansion of a tree in form, as chapter 14 tells it.
func expansion(t api.Node) api.Node {
	if t.Kind != api.KindRep {
		t = clone(t)
		for i, sub := range t.Subs {
			t.Subs[i] = expansion(sub)
		}
		return t
	}
	least, most := t.Min, t.Max
	if most == 0 {
		return node(api.KindEmpty)
	}
	x := expansion(t.Subs[0])
	if least == 1 && most == 1 {
		return x
	}
	if least == 0 && (most == 1 || most == -1) {
		t.Subs = []api.Node{x}
		return t
	}
	seq := node(api.KindSeq)
	for range least {
		seq.Subs = append(seq.Subs, x)
	}
	if most == -1 {
		seq.Subs = append(seq.Subs, bare(x, -1))
	}
	for range most - least {
		seq.Subs = append(seq.Subs, bare(x, 1))
	}
	return seq
}

// maker makes trees by a rule that comes out the same each time.
type maker struct{ state uint32 }

func (m *maker) below(n int) int {
	m.state = m.state*1664525 + 1013904223
	return int(m.state>>16) % n
}

func (m *maker) pick(list ...int) int {
	return list[m.below(len(list))]
}

// inForm makes a tree in form, with at most this many nodes in one another.
func (m *maker) inForm(most int) api.Node {
	kind := m.pick(1, 2, 3, 4, 5, 5, 6, 6, 7, 7, 8, 8, 8)
	if most == 1 {
		kind = m.pick(1, 2, 3, 4)
	}
	t := node(kind)
	subs := 0
	switch kind {
	case api.KindBytes:
		for i := range t.Set {
			t.Set[i] = uint64(m.state) * uint64(m.below(9))
		}
	case api.KindSeq, api.KindAlt:
		subs = 2 + m.below(3)
	case api.KindGroup:
		t.Num = m.pick(1, 2, 3, 7, 998, 999)
		subs = 1
	case api.KindRep:
		t.Min = m.below(4)
		t.Max = m.pick(-1, t.Min, t.Min+1, t.Min+2)
		t.Bare = t.Min == 0 && m.below(2) == 1
		subs = 1
	}
	for range subs {
		t.Subs = append(t.Subs, m.inForm(most-1))
	}
	return t
}

// forms are many trees in form.
func forms() []api.Node {
	var list []api.Node
	m := &maker{state: 4}
	for most := 1; most <= 5; most++ {
		for range 60 {
			list = append(list, m.inForm(most))
		}
	}
	return list
}

// loose makes any tree: whatever kind, numbers and Subs.
func (m *maker) loose(most int) api.Node {
	number := func() int {
		return m.pick(0, 0, 1, 2, -1, -7, 255, 256, 999, 1000, math.MaxInt, math.MinInt)
	}
	t := api.Node{Kind: m.pick(0, 1, 2, 3, 4, 5, 6, 7, 7, 8, 8, 9, -1, math.MaxInt, math.MinInt)}
	t.Num, t.Min, t.Max, t.Bare = number(), number(), number(), m.below(4) == 0
	t.Set[m.below(4)] = uint64(m.below(3))
	if most > 1 {
		for range m.below(4) {
			t.Subs = append(t.Subs, m.loose(most-1))
		}
	}
	return t
}

// sorts answers trees of all kinds: those in form, and many that aren't.
func sorts() []api.Node {
	list := append(forms(), api.Node{}, api.Node{Subs: []api.Node{}}, node(api.KindRep), rep(leaf('a'), 2, 1), group(0, leaf('a')))
	m := &maker{state: 9}
	for most := 1; most <= 4; most++ {
		for range 80 {
			list = append(list, m.loose(most))
		}
	}
	return list
}

// spoiled are trees that differ from t in one field of one node each, or in one of its Subs.
func spoiled(t api.Node) []api.Node {
	changes := []func(n *api.Node){
		func(n *api.Node) { n.Kind++ },
		func(n *api.Node) { n.Kind = -n.Kind - 1 },
		func(n *api.Node) { n.Set[0] ^= 1 },
		func(n *api.Node) { n.Set[1] ^= 1 << 33 },
		func(n *api.Node) { n.Set[2] ^= 1 << 20 },
		func(n *api.Node) { n.Set[3] ^= 1 << 63 },
		func(n *api.Node) { n.Num++ },
		func(n *api.Node) { n.Num = -n.Num - 1 },
		func(n *api.Node) { n.Min++ },
		func(n *api.Node) { n.Max-- },
		func(n *api.Node) { n.Bare = !n.Bare },
		func(n *api.Node) { n.Subs = append(n.Subs, leaf('x')) },
		func(n *api.Node) { n.Subs = append([]api.Node{{}}, n.Subs...) },
	}
	var list []api.Node
	for at := range all(&t) {
		for _, change := range changes {
			other := clone(t)
			change(all(&other)[at])
			list = append(list, other)
		}
		other := clone(t)
		if n := all(&other)[at]; len(n.Subs) > 0 {
			n.Subs = n.Subs[1:]
			list = append(list, other)
		}
	}
	return list
}

// slots counts each place of the lists, spare room too, by its address.
func slots(lists ...[]api.Node) map[*api.Node]int {
	found := map[*api.Node]int{}
	for _, list := range lists {
		whole := list[:cap(list)]
		for i := range whole {
			found[&whole[i]]++
		}
		for _, t := range list {
			for at, n := range slots(t.Subs) {
				found[at] += n
			}
		}
	}
	return found
}
