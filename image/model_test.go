package image_test

import (
	"slices"
	"strconv"
	"strings"

	"trawl/api"
	"trawl/tree"
)

// The means of the tests. Trees are laid by the calls of layer 4, which has tests of its own; images by the chapter's words, as texts.

func node(kind int) api.Node { return api.Node{Kind: kind} }

func empty() api.Node { return node(api.KindEmpty) }
func begin() api.Node { return node(api.KindBegin) }
func end() api.Node   { return node(api.KindEnd) }

func bare(t api.Node, most int) api.Node {
	t = tree.Rep(t, 0, most)
	t.Bare = true
	return t
}

// row is a KindSeq of n times the tree.
func row(n int, t api.Node) api.Node { return tree.Seq(slices.Repeat([]api.Node{t}, n)...) }

// nest puts n groups around the tree.
func nest(n int, t api.Node) api.Node {
	for range n {
		t = api.Node{Kind: api.KindGroup, Num: 1, Subs: []api.Node{t}}
	}
	return t
}

// unseen is a tree of size 1, whatever is in it.
func unseen(t api.Node) api.Node { return tree.Rep(t, 0, 0) }

const head = "TRWL\x01"

// imageOf is the image of a tree in form.
func imageOf(t api.Node) string { return head + body(t) }

// body is the bytes of a tree in form.
func body(t api.Node) string {
	text := chr(t.Kind)
	switch t.Kind {
	case api.KindBytes:
		text += setText(t.Set)
	case api.KindSeq, api.KindAlt:
		text += number(len(t.Subs))
	case api.KindGroup:
		text += number(t.Num)
	case api.KindRep:
		text += number(t.Min) + number(t.Max+1) + chr(map[bool]int{true: 1}[t.Bare])
	}
	var subs strings.Builder
	for _, sub := range t.Subs {
		subs.WriteString(body(sub))
	}
	return text + subs.String()
}

// chr is the text of one byte.
func chr(b int) string { return string([]byte{byte(b)}) }

// number is a number in bytes, by its binary digits: seven a byte, the last ones first.
func number(n int) string {
	bits, text := strconv.FormatInt(int64(n), 2), ""
	for len(bits) > 7 {
		text += eight("1" + bits[len(bits)-7:])
		bits = bits[:len(bits)-7]
	}
	return text + eight(bits)
}

func eight(bits string) string {
	b, err := strconv.ParseUint(bits, 2, 8)
	if err != nil {
		panic(err)
	}
	return chr(int(b))
}

// setText is the bytes of a set: as the words' lowest bytes come first, byte b is bit b%8 of byte b/8.
func setText(s api.Set) string {
	list := make([]byte, 32)
	for b := range 256 {
		if s[b/64]>>(b%64)&1 == 1 {
			list[b/8] += 1 << (b % 8)
		}
	}
	return string(list)
}

// maker makes right trees by a rule that comes out the same each time.
type maker struct{ state uint32 }

func (m *maker) below(n int) int {
	m.state = m.state*1664525 + 1013904223
	return int(m.state>>16) % n
}

func (m *maker) pick(list ...int) int { return list[m.below(len(list))] }

// tree makes a tree in form with at most this many nodes in one another.
func (m *maker) tree(most int) api.Node {
	kind := m.pick(5, 5, 6, 6, 7, 7, 8, 8, 8, 1, 2)
	if most == 1 {
		kind = m.pick(1, 2, 3, 4)
	}
	switch kind {
	case api.KindBytes:
		return m.set()
	case api.KindSeq:
		return tree.Seq(m.trees(most - 1)...)
	case api.KindAlt:
		return tree.Alt(m.trees(most - 1)...)
	case api.KindGroup:
		return tree.Group(m.pick(1, 2, 127, 128, 129, 255, 256, 998, 999, 1+m.below(999)), m.tree(most-1))
	case api.KindRep:
		return m.repeat(m.tree(most - 1))
	}
	return node(kind)
}

func (m *maker) trees(most int) []api.Node {
	list := make([]api.Node, 2+m.below(3))
	for i := range list {
		list[i] = m.tree(most)
	}
	return list
}

// repeat puts a repeat around the tree, most often one that doesn't make it too great.
func (m *maker) repeat(t api.Node) api.Node {
	least := m.pick(0, 0, 1, 2, 3)
	switch m.below(6) {
	case 0:
		return unseen(t)
	case 1:
		return bare(t, m.pick(-1, 1, 2, 3, 0))
	case 2:
		return tree.Rep(t, m.pick(126, 127, 128, 129, 255), -1)
	case 3:
		return tree.Rep(t, 0, m.pick(126, 127, 128, 129, 254, 255))
	}
	return tree.Rep(t, least, m.pick(-1, least, least+1, least+2))
}

func (m *maker) set() api.Node {
	var s api.Set
	for i := range s {
		s[i] = uint64(m.below(1<<16))<<48 | uint64(m.below(1<<16))<<32 | uint64(m.state)
		s[i] *= uint64(m.below(3))
	}
	return tree.Bytes(s)
}

// rightTrees are right trees of all sorts.
func rightTrees() []api.Node {
	a := tree.Text("a")
	list := []api.Node{
		empty(), begin(), end(), a, tree.Alt(), tree.Text("ab"), tree.Alt(a, empty(), a), nest(199, a), row(1999, a), unseen(row(5000, a)),
		unseen(nest(196, row(3, a))), tree.Rep(tree.Rep(a, 255, 255), 7, 7), unseen(tree.Rep(tree.Rep(a, 255, 255), 255, 255)), tree.Rep(row(1999, a), 1, 1),
		bare(a, 0), bare(a, 1), bare(a, -1), bare(a, 255), tree.Group(999, tree.Group(1, a)), tree.Seq(tree.Group(5, a), tree.Group(5, a)),
	}
	m := &maker{state: 9}
	for most := 1; most <= 6; most++ {
		for range 150 {
			if t := m.tree(most); tree.Check(t) == nil {
				list = append(list, t)
			}
		}
	}
	return list
}

// few are bytes of every sort: kinds and small numbers, and ends and beginnings of longer numbers.
const few = "\x00\x01\x02\x03\x04\x05\x06\x07\x08\x80\x81\xff"

func onlyFew(text string) bool {
	for i := range len(text) {
		if strings.IndexByte(few, text[i]) < 0 {
			return false
		}
	}
	return true
}

// fewNumbers are the texts of all numbers from one to another that take at most this many of those bytes.
func fewNumbers(from, to, bytes int) map[int]string {
	found := map[int]string{}
	for n := from; n <= to; n++ {
		if text := number(n); len(text) <= bytes && onlyFew(text) {
			found[n] = text
		}
	}
	return found
}

// smallTrees are all right trees whose bytes are at most this many, and all among few, by how many they are.
func smallTrees(most int) [][]api.Node {
	found := make([][]api.Node, most+1)
	for n := 1; n <= most; n++ {
		if n == 1 {
			found[1] = []api.Node{empty(), begin(), end()}
		}
		for num, text := range fewNumbers(1, api.MaxNum, n) {
			for _, sub := range found[max(0, n-1-len(text))] {
				found[n] = append(found[n], tree.Group(num, sub))
			}
		}
		found[n] = append(found[n], smallRepeats(found, n)...)
		for subs := range few[:9] {
			for _, list := range lists(found, subs, n-2) {
				if subs >= 2 {
					found[n] = append(found[n], tree.Seq(list...), tree.Alt(list...))
				}
			}
		}
	}
	return found
}

// smallRepeats are the repeats among them that have n bytes.
func smallRepeats(found [][]api.Node, n int) []api.Node {
	var list []api.Node
	for least, text := range fewNumbers(0, api.MaxCount, n) {
		for above, more := range fewNumbers(0, api.MaxCount+1, n) {
			for _, sub := range found[max(0, n-2-len(text)-len(more))] {
				t := tree.Rep(sub, least, above-1)
				if tree.Check(t) != nil {
					continue
				}
				list = append(list, t)
				if least == 0 {
					list = append(list, bare(sub, above-1))
				}
			}
		}
	}
	return list
}

// lists are all lists of this many trees with this many bytes together.
func lists(found [][]api.Node, count, bytes int) [][]api.Node {
	if count == 0 && bytes == 0 {
		return [][]api.Node{nil}
	}
	var all [][]api.Node
	for n := 1; count > 0 && n <= bytes; n++ {
		for _, rest := range lists(found, count-1, bytes-n) {
			for _, first := range found[n] {
				all = append(all, append([]api.Node{first}, rest...))
			}
		}
	}
	return all
}

// slots counts each place of the lists, spare room too, by its address.
func slots(list []api.Node) map[*api.Node]int {
	found := map[*api.Node]int{}
	whole := list[:cap(list)]
	for i := range whole {
		found[&whole[i]]++
	}
	for _, t := range list {
		for at, n := range slots(t.Subs) {
			found[at] += n
		}
	}
	return found
}
