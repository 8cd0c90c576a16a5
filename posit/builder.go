package posit

import (
	"bytes"

	"trawl/api"
)

// builder gathers the positions of an expansion from the left.
type builder struct {
	sets []api.Set
	// follow has, of each position, the ways to each position. Several nodes may join their ways there, so it is no list of edges yet.
	follow [][]uint8
}

// part is what a node is to those around it. Its lists are nobody else's.
type part struct {
	null  int
	first []api.Edge
	last  []api.Edge
}

// newBuilder answers a builder that has none yet of n positions.
func newBuilder(n int) *builder {
	b := &builder{follow: make([][]uint8, n)}
	for p := range b.follow {
		b.follow[p] = make([]uint8, n)
	}
	return b
}

// part takes in the positions of a node, and what leads from one of them to another one.
func (b *builder) part(t api.Node) part {
	switch t.Kind {
	case api.KindBegin:
		return part{null: atBegin}
	case api.KindEnd:
		return part{null: atEnd}
	case api.KindBytes:
		return b.position(t.Set)
	case api.KindGroup:
		return b.part(t.Subs[0])
	case api.KindAlt:
		return b.choice(t.Subs)
	case api.KindSeq:
		return b.row(t.Subs)
	case api.KindRep:
		return b.repeat(t)
	}
	return part{null: always}
}

// position takes in the next position.
func (b *builder) position(s api.Set) part {
	p := len(b.sets)
	b.sets = append(b.sets, s)
	return part{
		first: []api.Edge{{To: p, Ways: always}},
		last:  []api.Edge{{To: p, Ways: always}},
	}
}

// choice takes in trees of which one is gone through.
func (b *builder) choice(list []api.Node) part {
	var whole part
	for _, t := range list {
		next := b.part(t)
		whole.null |= next.null
		whole.first = append(whole.first, next.first...)
		whole.last = append(whole.last, next.last...)
	}
	return whole
}

// row takes in trees that are gone through one behind the other. The lasts of what is taken in have met the nulls behind them already, so the next tree's firsts are all that has to be met.
func (b *builder) row(list []api.Node) part {
	whole := part{null: always}
	for _, t := range list {
		next := b.part(t)
		b.lead(whole.last, next.first)
		whole.first = append(whole.first, met(next.first, whole.null)...)
		whole.last = append(met(whole.last, next.null), next.last...)
		whole.null &= next.null
	}
	return whole
}

// repeat takes in a repeat of an expansion: none has to be gone through even once.
func (b *builder) repeat(t api.Node) part {
	whole := b.part(t.Subs[0])
	if t.Max == endless {
		b.lead(whole.last, whole.first)
	}
	whole.null = always
	return whole
}

// lead joins to follow the ways from each of these lasts to each of these firsts.
func (b *builder) lead(lasts, firsts []api.Edge) {
	for _, l := range lasts {
		ways := b.follow[l.To]
		for _, f := range firsts {
			ways[f.To] |= uint8(l.Ways & f.Ways)
		}
	}
}

// edges answers what leads from each position.
func (b *builder) edges() [][]api.Edge {
	made := make([][]api.Edge, len(b.follow))
	for p, row := range b.follow {
		made[p] = edgesOf(row)
	}
	return made
}

// edgesOf answers the edges that one row of ways tells. They may be millions in all the rows, so the list is made as long as it will be.
func edgesOf(row []uint8) []api.Edge {
	none := bytes.Count(row, []byte{0})
	made := make([]api.Edge, 0, len(row)-none)
	for q, ways := range row {
		if ways > 0 {
			made = append(made, api.Edge{To: q, Ways: int(ways)})
		}
	}
	return made
}

// met answers, as a new list, the edges that are left where these ways must be open too.
func met(list []api.Edge, ways int) []api.Edge {
	var made []api.Edge
	for _, e := range list {
		e.Ways &= ways
		if e.Ways > 0 {
			made = append(made, e)
		}
	}
	return made
}
