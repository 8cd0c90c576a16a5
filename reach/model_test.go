package reach_test

import (
	"math"
	"math/rand"

	"trawl/api"
	"trawl/scene"
	"trawl/tree"
)

// model says by the words of 'What a tree takes', piece by piece and cut by cut, whether a tree takes a piece: the tests hold the package against it. What it has found once it keeps, since longer subjects have many cuts.
type model struct {
	x    *scene.Scene
	kept map[question]bool
}

// question is one that the model may be asked again: of a node, or of what is left of a list of them or of a repeat behind done rounds.
type question struct {
	node           *api.Node
	left, done     int
	from, to, kind int
}

const (
	ofNode = iota
	ofList
	ofRounds
)

func modelOf(x *scene.Scene) model {
	return model{x: x, kept: map[question]bool{}}
}

// ask answers what is kept, or works it out and keeps it.
func (m model) ask(q question, work func() bool) bool {
	if answer, ok := m.kept[q]; ok {
		return answer
	}
	m.kept[q] = work()
	return m.kept[q]
}

func (m model) takes(t *api.Node, from, to int) bool {
	if from > to {
		return false
	}
	return m.ask(question{node: t, from: from, to: to, kind: ofNode}, func() bool { return m.node(t, from, to) })
}

func (m model) node(t *api.Node, from, to int) bool {
	switch t.Kind {
	case 1:
		return from == to
	case 2:
		return to == from+1 && t.Set[m.x.Text()[from]/64]>>(m.x.Text()[from]%64)&1 == 1
	case 3:
		return from == to && m.x.Begin(from)
	case 4:
		return from == to && m.x.End(from)
	case 5:
		return m.list(t, 0, from, to)
	case 6:
		for i := range t.Subs {
			if m.takes(&t.Subs[i], from, to) {
				return true
			}
		}
		return false
	case 7:
		return m.takes(&t.Subs[0], from, to)
	}
	return m.emptyRound(t, from, to) || m.rounds(t, 0, from, to)
}

// list says whether the Subs from number next on take the piece, one behind the other.
func (m model) list(t *api.Node, next, from, to int) bool {
	if next == len(t.Subs) {
		return from == to
	}
	return m.ask(question{node: t, left: next, from: from, to: to, kind: ofList}, func() bool {
		for cut := from; cut <= to; cut++ {
			if m.takes(&t.Subs[next], from, cut) && m.list(t, next+1, cut, to) {
				return true
			}
		}
		return false
	})
}

// emptyRound says whether the piece is one of just one round, an empty one, where that is let.
func (m model) emptyRound(t *api.Node, from, to int) bool {
	return t.Min == 0 && t.Max != 0 && !t.Bare && from == to && m.takes(&t.Subs[0], from, to)
}

// rounds says whether behind done rounds the piece is one of further ones.
func (m model) rounds(t *api.Node, done, from, to int) bool {
	if done >= t.Min && from == to {
		return true
	}
	if done == t.Max {
		return false
	}
	return m.ask(question{node: t, done: done, from: from, to: to, kind: ofRounds}, func() bool {
		for cut := from; cut <= to; cut++ {
			empty := cut == from
			if empty && done >= t.Min {
				continue
			}
			if m.takes(&t.Subs[0], from, cut) && m.rounds(t, done+1, cut, to) {
				return true
			}
		}
		return false
	})
}

// ends asks the model of all pieces from a place on.
func (m model) ends(t *api.Node, from int) []int {
	var list []int
	for to := from; to <= m.x.Len(); to++ {
		if m.takes(t, from, to) {
			list = append(list, to)
		}
	}
	return list
}

// first asks the model of all pieces.
func (m model) first(t *api.Node) (api.Span, bool) {
	for from := range m.x.Len() + 1 {
		if list := m.ends(t, from); len(list) > 0 {
			return api.Span{From: from, To: list[len(list)-1]}, true
		}
	}
	return api.Span{}, false
}

// subjects are all texts of at most so many bytes of an alphabet.
func subjects(alphabet string, most int) []string {
	list := []string{""}
	for i := 0; i < len(list) && len(list[i]) < most; i++ {
		for j := range len(alphabet) {
			list = append(list, list[i]+alphabet[j:j+1])
		}
	}
	return list
}

// leaves are small trees without Subs, of the bytes a, b and the newline.
func leaves() []api.Node {
	return []api.Node{
		{Kind: api.KindEmpty},
		{Kind: api.KindBegin},
		{Kind: api.KindEnd},
		tree.Alt(),
		tree.Text("a"),
		tree.Text("b"),
		tree.Text("\n"),
		tree.Bytes(api.Set{1 << '\n', 1 << ('a' - 64)}),
		tree.Bytes(api.Set{math.MaxUint64, math.MaxUint64, math.MaxUint64, math.MaxUint64}),
	}
}

// repeats are repeats of a tree, bare ones too, with small counts.
func repeats(t api.Node) []api.Node {
	var list []api.Node
	for _, c := range [][2]int{{0, 0}, {0, 1}, {0, -1}, {1, 1}, {1, -1}, {0, 2}, {1, 2}, {2, 2}, {2, 3}, {2, -1}, {3, 5}, {0, 6}, {4, 4}} {
		r := tree.Rep(t, c[0], c[1])
		list = append(list, r)
		if c[0] == 0 {
			r.Bare = true
			list = append(list, r)
		}
	}
	return list
}

// grown are all trees of one node above the trees handed in.
func grown(list []api.Node) []api.Node {
	var made []api.Node
	for _, t := range list {
		made = append(made, tree.Group(1, t))
		made = append(made, repeats(t)...)
		for _, other := range list {
			made = append(made, tree.Seq(t, other), tree.Alt(t, other))
		}
	}
	return made
}

// random makes a tree of about so many nodes, in form.
func random(r *rand.Rand, nodes int) api.Node {
	if nodes <= 1 {
		list := leaves()
		return list[r.Intn(len(list))]
	}
	switch r.Intn(6) {
	case 0:
		return tree.Group(1+r.Intn(api.MaxNum), random(r, nodes-1))
	case 1, 2:
		list := repeats(random(r, nodes-1))
		return list[r.Intn(len(list))]
	}
	var list []api.Node
	for left := nodes - 1; left > 0 || len(list) < 2; {
		n := 1 + r.Intn(max(left, 1))
		list = append(list, random(r, n))
		left -= n
	}
	if r.Intn(2) == 0 {
		return tree.Seq(list...)
	}
	return tree.Alt(list...)
}

// text makes a text of the leaves' bytes, and of one more.
func text(r *rand.Rand, most int) string {
	made := make([]byte, r.Intn(most+1))
	for i := range made {
		made[i] = "aaabb\nc"[r.Intn(7)]
	}
	return string(made)
}

// outside are numbers that are no place of a subject of n bytes; less one, or as shorter numbers, some of them would be one.
func outside(n int) []int {
	list := []int{math.MinInt, math.MinInt + 1, math.MinInt32, math.MaxInt32, math.MaxInt, -64, -63, 64, 128, n + 64, n + 256}
	for i := range n + 2 {
		list = append(list, -1-i, n+1+i, i-1<<32, i+1<<32, math.MinInt+i, math.MaxInt-i)
	}
	return list
}
