package rank_test

import (
	"math"
	"math/rand"
	"slices"
	"strconv"

	"trawl/api"
	"trawl/scene"
	"trawl/tree"
)

// key writes a parse, so that two parses are the same just if their keys are.
func key(p api.Parse) string {
	return string(written(nil, p))
}

// written is what stands ahead, and the parse's key behind it.
func written(ahead []byte, p api.Parse) []byte {
	ahead = strconv.AppendInt(ahead, int64(p.From), 10)
	ahead = strconv.AppendInt(append(ahead, ".."...), int64(p.To), 10)
	ahead = strconv.AppendInt(append(ahead, ':'), int64(p.Pick), 10)
	ahead = append(ahead, '[')
	for _, sub := range p.Subs {
		ahead = written(ahead, sub)
	}
	return append(ahead, ']')
}

// model makes all parses of a tree by the words of the chapter and of 'What a tree takes', as far as they are not too many.
type model struct {
	x *scene.Scene
	// left is how many parses it may still make.
	left int
}

// most is how many parses of one tree and one scene are made for a test.
const most = 20000

// parses are all parses of a tree over a piece.
func (m *model) parses(t *api.Node, from, to int) []api.Parse {
	var made []api.Parse
	for _, subs := range m.subs(t, from, to) {
		made = append(made, api.Parse{From: from, To: to, Pick: subs.pick, Subs: subs.list})
	}
	m.left -= len(made)
	return made
}

// below is what a parse has beside its places.
type below struct {
	pick int
	list []api.Parse
}

// subs are all Picks and Subs that a parse of a tree over a piece may have.
func (m *model) subs(t *api.Node, from, to int) []below {
	switch t.Kind {
	case 1:
		return alone(from == to)
	case 2:
		return alone(to == from+1 && t.Set[m.x.Text()[from]/64]>>(m.x.Text()[from]%64)&1 == 1)
	case 3:
		return alone(from == to && m.x.Marks(from)&1 != 0)
	case 4:
		return alone(from == to && m.x.Marks(from)&2 != 0)
	case 5:
		return unpicked(m.list(t.Subs, from, to))
	case 6:
		var made []below
		for i := range t.Subs {
			for _, p := range m.parses(&t.Subs[i], from, to) {
				made = append(made, below{pick: i, list: []api.Parse{p}})
			}
		}
		return made
	case 7:
		return unpicked(m.list(t.Subs, from, to))
	}
	made := unpicked(m.rounds(t, 0, from, to))
	if t.Min == 0 && t.Max != 0 && !t.Bare && from == to {
		made = append(made, unpicked(m.list(t.Subs, from, to))...)
	}
	return made
}

// alone is a parse without Subs, if ok.
func alone(ok bool) []below {
	if ok {
		return []below{{}}
	}
	return nil
}

func unpicked(lists [][]api.Parse) []below {
	var made []below
	for _, list := range lists {
		made = append(made, below{list: list})
	}
	return made
}

// list are all lists of parses of the trees, one behind the other.
func (m *model) list(trees []api.Node, from, to int) [][]api.Parse {
	if len(trees) == 0 {
		if from == to {
			return [][]api.Parse{nil}
		}
		return nil
	}
	var made [][]api.Parse
	for cut := from; cut <= to; cut++ {
		rest := m.list(trees[1:], cut, to)
		made = append(made, m.joined(&trees[0], from, cut, rest)...)
	}
	return made
}

// joined are all lists of a parse of the tree over the piece and one of the lists behind it.
func (m *model) joined(t *api.Node, from, to int, lists [][]api.Parse) [][]api.Parse {
	if len(lists) == 0 || m.left <= 0 {
		return nil
	}
	var made [][]api.Parse
	for _, p := range m.parses(t, from, to) {
		for _, list := range lists {
			m.left--
			made = append(made, append([]api.Parse{p}, list...))
			if m.left <= 0 {
				return nil
			}
		}
	}
	return made
}

// rounds are all lists of rounds of a repeat behind done ones.
func (m *model) rounds(t *api.Node, done, from, to int) [][]api.Parse {
	var made [][]api.Parse
	if done >= t.Min && from == to {
		made = append(made, nil)
	}
	if done == t.Max || m.left <= 0 {
		return made
	}
	first := from
	if done >= t.Min {
		first++
	}
	for cut := first; cut <= to; cut++ {
		rest := m.rounds(t, done+1, cut, to)
		made = append(made, m.joined(&t.Subs[0], from, cut, rest)...)
	}
	return made
}

// all are all parses of a tree over all pieces of a scene; false, if they are too many.
func all(t *api.Node, x *scene.Scene) ([]api.Parse, bool) {
	m := model{x: x, left: most}
	var made []api.Parse
	for from := range x.Len() + 1 {
		for to := from; to <= x.Len(); to++ {
			made = append(made, m.parses(t, from, to)...)
		}
	}
	return made, m.left > 0
}

// over are all parses of a tree over a piece.
func over(t *api.Node, x *scene.Scene, from, to int) []api.Parse {
	m := model{x: x, left: most}
	made := m.parses(t, from, to)
	if m.left <= 0 {
		panic("too many parses for a test")
	}
	return made
}

// better says by the chapter's five lines whether a is the better one.
func better(a, b api.Parse) bool {
	if a.From != b.From {
		return a.From < b.From
	}
	if a.To != b.To {
		return a.To > b.To
	}
	if a.Pick != b.Pick {
		return a.Pick < b.Pick
	}
	for i := 0; i < len(a.Subs) && i < len(b.Subs); i++ {
		if key(a.Subs[i]) != key(b.Subs[i]) {
			return better(a.Subs[i], b.Subs[i])
		}
	}
	return len(a.Subs) > len(b.Subs)
}

// order is what Compare is to answer.
func order(a, b api.Parse) int {
	switch {
	case better(a, b):
		return -1
	case better(b, a):
		return 1
	}
	return 0
}

// best is the best one of a list.
func best(list []api.Parse) api.Parse {
	found := list[0]
	for _, p := range list {
		if better(p, found) {
			found = p
		}
	}
	return found
}

// spans walks a parse as the chapter says, from its top.
func spans(t api.Node, p api.Parse, groups int) []api.Span {
	told := map[int]api.Span{}
	visit(t, p, told)
	list := []api.Span{{From: p.From, To: p.To}}
	for num := 1; num <= groups; num++ {
		span, ok := told[num]
		if !ok {
			span = api.Span{From: -1, To: -1}
		}
		list = append(list, span)
	}
	return list
}

func visit(t api.Node, p api.Parse, told map[int]api.Span) {
	if t.Kind == 7 {
		for _, num := range numbers(t.Subs[0]) {
			delete(told, num)
		}
		told[t.Num] = api.Span{From: p.From, To: p.To}
	}
	for i, sub := range p.Subs {
		switch t.Kind {
		case 5:
			visit(t.Subs[i], sub, told)
		case 6:
			visit(t.Subs[p.Pick], sub, told)
		default:
			visit(t.Subs[0], sub, told)
		}
	}
}

// numbers are those of all groups in a tree.
func numbers(t api.Node) []int {
	var list []int
	if t.Kind == 7 {
		list = append(list, t.Num)
	}
	for _, sub := range t.Subs {
		list = append(list, numbers(sub)...)
	}
	return list
}

// changes are the parses that are a parse with one thing changed in one place of it: most of them are no parses of its tree.
func changes(p api.Parse) []api.Parse {
	made := changed(p)
	for i, sub := range p.Subs {
		for _, other := range changes(sub) {
			made = append(made, with(p, slices.Replace(slices.Clone(p.Subs), i, i+1, other)))
		}
	}
	return made
}

// with is a parse with other Subs.
func with(p api.Parse, subs []api.Parse) api.Parse {
	p.Subs = subs
	return p
}

// changed are the changes of the parse's own fields.
func changed(p api.Parse) []api.Parse {
	var made []api.Parse
	for _, by := range []int{-1, 1, 64, -64, 256, 1 << 32, math.MinInt} {
		from, to, both, pick := p, p, p, p
		from.From += by
		to.To += by
		both.From += by
		both.To += by
		pick.Pick += by
		made = append(made, from, to, both, pick)
	}
	turned := p
	turned.From, turned.To = p.To, p.From
	made = append(made, turned, with(p, nil), with(p, []api.Parse{p}), with(p, []api.Parse{p, p}))
	for i, sub := range p.Subs {
		made = append(made, sub)
		made = append(made, with(p, slices.Delete(slices.Clone(p.Subs), i, i+1)))
		made = append(made, with(p, slices.Replace(slices.Clone(p.Subs), i, i+1, sub.Subs...)))
		made = append(made, with(p, slices.Insert(slices.Clone(p.Subs), i, sub)))
		made = append(made, with(p, slices.Insert(slices.Clone(p.Subs), i, narrow(sub, sub.From))))
		made = append(made, with(p, slices.Insert(slices.Clone(p.Subs), i+1, narrow(sub, sub.To))))
		made = append(made, with(p, slices.Insert(slices.Clone(p.Subs), i, api.Parse{From: sub.From, To: sub.From})))
	}
	return made
}

// narrow is a parse with all its places moved to one, so that of one that takes the empty piece it is a parse.
func narrow(p api.Parse, place int) api.Parse {
	p.From, p.To = place, place
	p.Subs = slices.Clone(p.Subs)
	for i, sub := range p.Subs {
		p.Subs[i] = narrow(sub, place)
	}
	return p
}

// subjects are all texts of at most so many bytes of an alphabet.
func subjects(alphabet string, most int) []string {
	list := []string{""}
	for i := 0; i < len(list) && len(list[i]) < most; i++ {
		for j := range len(alphabet) {
			list = append(list, list[i]+alphabet[j:j+1])
		}
	}
	return list
}

// leaves are small trees without Subs, of the bytes a, b and the newline.
func leaves() []api.Node {
	return []api.Node{
		{Kind: api.KindEmpty},
		{Kind: api.KindBegin},
		{Kind: api.KindEnd},
		tree.Alt(),
		tree.Text("a"),
		tree.Text("b"),
		tree.Bytes(api.Set{1 << '\n', 1 << ('a' - 64)}),
		tree.Bytes(api.Set{math.MaxUint64, math.MaxUint64, math.MaxUint64, math.MaxUint64}),
	}
}

// repeats are repeats of a tree, bare ones too, with small counts.
func repeats(t api.Node) []api.Node {
	var list []api.Node
	for _, c := range [][2]int{{0, 0}, {0, 1}, {0, -1}, {1, 1}, {1, -1}, {0, 2}, {1, 2}, {2, 2}, {1, 3}, {2, -1}, {3, 5}} {
		r := tree.Rep(t, c[0], c[1])
		list = append(list, r)
		if c[0] == 0 {
			r.Bare = true
			list = append(list, r)
		}
	}
	return list
}

// grown are all trees of one node above the trees handed in.
func grown(list []api.Node) []api.Node {
	var made []api.Node
	for _, t := range list {
		made = append(made, tree.Group(1, t))
		made = append(made, repeats(t)...)
		for _, other := range list {
			made = append(made, tree.Seq(t, other), tree.Alt(t, other))
		}
	}
	return made
}

// random makes a tree of about so many nodes, in form, with few numbers of groups, so that they are often there more than once.
func random(r *rand.Rand, nodes int) api.Node {
	if nodes <= 1 {
		list := leaves()
		return list[r.Intn(len(list))]
	}
	switch r.Intn(7) {
	case 0, 1:
		return tree.Group(1+r.Intn(5), random(r, nodes-1))
	case 2, 3:
		list := repeats(random(r, nodes-1))
		return list[r.Intn(len(list))]
	}
	var list []api.Node
	for left := nodes - 1; left > 0 || len(list) < 2; {
		n := 1 + r.Intn(max(left, 1))
		list = append(list, random(r, n))
		left -= n
	}
	if r.Intn(2) == 0 {
		return tree.Seq(list...)
	}
	return tree.Alt(list...)
}

// text makes a text of the leaves' bytes, and of one more.
func text(r *rand.Rand, most int) string {
	made := make([]byte, r.Intn(most+1))
	for i := range made {
		made[i] = "aaabb\nc"[r.Intn(7)]
	}
	return string(made)
}

// renumbered numbers a tree's groups from 1 on, as they are met from the left, so that each number is there once.
func renumbered(t api.Node) api.Node {
	next := 0
	var number func(api.Node) api.Node
	number = func(t api.Node) api.Node {
		if t.Kind == 7 {
			next++
			t.Num = next
		}
		t.Subs = slices.Clone(t.Subs)
		for i, sub := range t.Subs {
			t.Subs[i] = number(sub)
		}
		return t
	}
	return number(t)
}

// flagged are the scenes of a subject by all flags that say something.
func flagged(s string) []*scene.Scene {
	var list []*scene.Scene
	for _, cflags := range []int{0, api.Newline} {
		for eflags := range 4 {
			list = append(list, scene.New(s, cflags, eflags))
		}
	}
	return list
}
