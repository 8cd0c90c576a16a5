package normal_test

import (
	"math"
	"math/rand"
	"slices"
	"strconv"
	"strings"

	"trawl/api"
	"trawl/ere"
	"trawl/tree"
)

// The means of the tests: they lay trees themselves, and tell the normal form a second time, so that they share nothing with the package.

func node(kind int, subs ...api.Node) api.Node {
	return api.Node{Kind: kind, Subs: subs}
}

func leaf(b byte) api.Node {
	t := node(api.KindBytes)
	t.Set[b/64] += 1 << (b % 64)
	return t
}

func seq(subs ...api.Node) api.Node { return node(api.KindSeq, subs...) }

func alt(subs ...api.Node) api.Node { return node(api.KindAlt, subs...) }

func group(num int, sub api.Node) api.Node {
	t := node(api.KindGroup, sub)
	t.Num = num
	return t
}

func rep(sub api.Node, least, most int) api.Node {
	t := node(api.KindRep, sub)
	t.Min, t.Max = least, most
	return t
}

func bare(sub api.Node, most int) api.Node {
	t := rep(sub, 0, most)
	t.Bare = true
	return t
}

// row is a KindSeq of n leaves, so its size is one more.
func row(n int) api.Node {
	return seq(slices.Repeat([]api.Node{leaf('a')}, n)...)
}

// nest puts n KindGroups around a tree.
func nest(n int, t api.Node) api.Node {
	for range n {
		t = group(1, t)
	}
	return t
}

// repeats puts n repeats with these counts around a tree.
func repeats(n int, t api.Node, least, most int) api.Node {
	for range n {
		t = rep(t, least, most)
	}
	return t
}

// clone is a tree with lists of its own, kept to hold against what a call may have changed.
func clone(t api.Node) api.Node {
	t.Subs = slices.Clone(t.Subs)
	for i, sub := range t.Subs {
		t.Subs[i] = clone(sub)
	}
	return t
}

// head tells a node without its Subs: E is a KindEmpty, a letter the KindBytes of it, G3 a group, r2,5 a repeat, b0,1 a bare one. Fields that aren't named for the kind are told too, if they aren't zero.
func head(t api.Node) string {
	name := "kind" + strconv.Itoa(t.Kind)
	switch t.Kind {
	case 1:
		name = "E"
	case 2:
		name, t.Set = set(t.Set), api.Set{}
	case 3:
		name = "^"
	case 4:
		name = "$"
	case 5:
		name = "seq"
	case 6:
		name = "alt"
	case 7:
		name, t.Num = "G"+strconv.Itoa(t.Num), 0
	case 8:
		name = "r"
		if t.Bare {
			name = "b"
		}
		name += strconv.Itoa(t.Min) + "," + strconv.Itoa(t.Max)
		t.Min, t.Max, t.Bare = 0, 0, false
	}
	if t.Set != (api.Set{}) || t.Num != 0 || t.Min != 0 || t.Max != 0 || t.Bare {
		name += "?" + set(t.Set) + "," + strconv.Itoa(t.Num) + "," + strconv.Itoa(t.Min) + "," + strconv.Itoa(t.Max) + strconv.FormatBool(t.Bare)
	}
	return name
}

func set(s api.Set) string {
	for b := byte('a'); b <= 'z'; b++ {
		if s == leaf(b).Set {
			return string(rune(b))
		}
	}
	name := "S"
	for _, word := range s {
		name += strconv.FormatUint(word, 16) + "."
	}
	return name
}

// told writes any tree.
func told(t api.Node) string {
	if len(t.Subs) == 0 {
		return head(t)
	}
	var subs []string
	for _, sub := range t.Subs {
		subs = append(subs, told(sub))
	}
	return head(t) + "(" + strings.Join(subs, " ") + ")"
}

// grouped tells whether the text of a tree tells of a group.
func grouped(t api.Node) bool {
	return strings.Contains(told(t), "G")
}

// normalOf is the normal form of a right tree, line for line of the chapter.
func normalOf(t api.Node) api.Node {
	free := !grouped(t)
	t = clone(t)
	for i, sub := range t.Subs {
		t.Subs[i] = normalOf(sub)
	}
	if !free {
		return t
	}
	switch t.Kind {
	case 5:
		return seqOf(t.Subs)
	case 6:
		return altOf(t.Subs)
	case 8:
		return repOf(t)
	}
	return t
}

const nothing = "S0.0.0.0."

// spliced has the Subs of a node of this kind in its place.
func spliced(list []api.Node, kind int) []api.Node {
	for i := len(list) - 1; i >= 0; i-- {
		if list[i].Kind == kind {
			list = slices.Concat(list[:i], list[i].Subs, list[i+1:])
		}
	}
	return list
}

// without has none of the trees of this text.
func without(list []api.Node, text string) []api.Node {
	var left []api.Node
	for _, t := range list {
		if told(t) != text {
			left = append(left, t)
		}
	}
	return left
}

// made is none, if nothing is left, the one that is left, or a node of them.
func made(kind int, list []api.Node, none api.Node) api.Node {
	if len(list) == 0 {
		return none
	}
	if len(list) == 1 {
		return list[0]
	}
	return node(kind, list...)
}

func seqOf(list []api.Node) api.Node {
	list = without(spliced(list, 5), "E")
	for i := len(list) - 1; i >= 0; i-- {
		if told(list[i]) == nothing {
			return node(2)
		}
		if i > 0 && (list[i].Kind == 3 || list[i].Kind == 4) && list[i-1].Kind == list[i].Kind {
			list = slices.Delete(list, i, i+1)
		}
	}
	return made(5, list, node(1))
}

func altOf(list []api.Node) api.Node {
	list = without(spliced(list, 6), nothing)
	var all api.Set
	for _, t := range list {
		for i, word := range t.Set {
			all[i] |= word
		}
	}
	var left []api.Node
	var texts []string
	for _, t := range list {
		if t.Kind == 2 {
			t.Set = all
		}
		if !slices.Contains(texts, told(t)) {
			texts, left = append(texts, told(t)), append(left, t)
		}
	}
	return made(6, left, node(2))
}

func repOf(t api.Node) api.Node {
	x := t.Subs[0]
	switch text := told(x); {
	case t.Max == 0 || text == "E":
		return node(1)
	case text == nothing || text == "^" || text == "$":
		if t.Min == 0 {
			return node(1)
		}
		return x
	case t.Min == 1 && t.Max == 1 || strings.HasPrefix(text, "r0,-1("):
		return x
	}
	t.Bare = false
	return t
}

// slots counts each place of the lists, spare room too, by its address.
func slots(lists ...[]api.Node) map[*api.Node]int {
	found := map[*api.Node]int{}
	var add func(list []api.Node)
	add = func(list []api.Node) {
		whole := list[:cap(list)]
		for i := range whole {
			found[&whole[i]]++
		}
		for _, t := range list {
			add(t.Subs)
		}
	}
	for _, list := range lists {
		add(list)
	}
	return found
}

// maker makes trees by chance, the same ones each time.
type maker struct {
	*rand.Rand
	// groups is the number of the last group that was made; numbers above 0 says that they are picked from 1 to that instead.
	groups, numbers int
	// within is how many repeats with Max 0 stand around what is made.
	within int
	// rare says that only one of so many groups is made.
	rare int
}

func (m *maker) pick(list ...int) int {
	return list[m.Intn(len(list))]
}

// number answers the number of the next group.
func (m *maker) number() int {
	if m.numbers > 0 {
		return 1 + m.Intn(m.numbers)
	}
	m.groups++
	return m.groups
}

// counts answers a pair of counts, small ones mostly.
func (m *maker) counts() (int, int) {
	least := m.pick(0, 0, 0, 1, 1, 2, 3)
	return least, m.pick(-1, least, least+1, least+1, least+2, least+3)
}

// tree makes a tree in form, with at most this many nodes in one another.
func (m *maker) tree(most int) api.Node {
	kind := m.pick(1, 2, 2, 3, 4, 5, 5, 5, 6, 6, 6, 7, 7, 7, 8, 8, 8, 8, 8)
	if most == 1 {
		kind = m.pick(1, 2, 2, 2, 2, 3, 4)
	}
	switch kind {
	case 2:
		t := leaf("ab"[m.Intn(2)])
		switch m.Intn(8) {
		case 0:
			t.Set[1] |= leaf('b').Set[1]
		case 1:
			t.Set = api.Set{}
		}
		return t
	case 5, 6:
		t := node(kind)
		for range 2 + m.Intn(2) {
			t.Subs = append(t.Subs, m.tree(most-1))
		}
		return t
	case 7:
		if m.numbers > 0 && m.within > 0 || m.rare > 0 && m.Intn(m.rare) > 0 {
			return m.tree(most - 1)
		}
		return group(m.number(), m.tree(most-1))
	case 8:
		return m.repeat(most)
	}
	return node(kind)
}

func (m *maker) repeat(most int) api.Node {
	least, greatest := m.counts()
	if greatest == 0 {
		m.within++
		defer func() { m.within-- }()
	}
	t := rep(m.tree(most-1), least, greatest)
	t.Bare = least == 0 && m.Intn(2) == 0
	return t
}

// loose makes any tree, often one with a single thing that isn't in form.
func (m *maker) loose(most int) api.Node {
	t := m.tree(most)
	for range m.Intn(3) {
		m.change(&t)
	}
	return t
}

// change sets one field of one node to whatever it may be.
func (m *maker) change(t *api.Node) {
	if len(t.Subs) > 0 && m.Intn(3) > 0 {
		m.change(&t.Subs[m.Intn(len(t.Subs))])
		return
	}
	number := m.pick(0, 0, 1, 2, -1, -7, 255, 256, 999, 1000, math.MaxInt, math.MinInt)
	switch m.Intn(8) {
	case 0:
		t.Kind = m.pick(0, 1, 2, 3, 4, 5, 6, 7, 8, 9, -1, math.MaxInt, math.MinInt)
	case 1:
		t.Set[m.Intn(4)] ^= 1 << m.Intn(64)
	case 2:
		t.Num = number
	case 3:
		t.Min = number
	case 4:
		t.Max = number
	case 5:
		t.Bare = !t.Bare
	case 6:
		t.Subs = append(t.Subs, leaf('c'))
	case 7:
		t.Subs = t.Subs[:len(t.Subs)/2]
	}
}

// someRight answers many right trees, of all kinds.
func someRight() []api.Node {
	var list []api.Node
	for most := 1; most <= 7; most++ {
		for i := range 150 {
			m := &maker{Rand: rand.New(rand.NewSource(int64(1000*most + i))), rare: i % 5}
			if i%2 == 0 {
				m.numbers = 999
			}
			if t := m.tree(most); tree.Check(t) == nil {
				list = append(list, t)
			}
		}
	}
	return list
}

// patterns are the trees of all extended patterns of at most so many of these words.
func patterns(words []string, most int) []api.Node {
	var made []api.Node
	longest := []string{""}
	for range most {
		var next []string
		for _, p := range longest {
			for _, w := range words {
				next = append(next, p+w)
			}
		}
		for _, p := range next {
			if n, _, err := ere.Parse(p, 0); err == nil {
				made = append(made, n)
			}
		}
		longest = next
	}
	return made
}

// bared answers the tree with each repeat bare that may be.
func bared(t api.Node) api.Node {
	t = clone(t)
	for i, sub := range t.Subs {
		t.Subs[i] = bared(sub)
	}
	t.Bare = t.Kind == 8 && t.Min == 0
	return t
}
