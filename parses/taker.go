package parses

import "trawl/api"

// endless is the Max of a repeat without end.
const endless = -1

// taker is a node of a right tree, made ready to tell its parses of all pieces of a ground. It never changes once it is made, so it may be gone over inside itself.
type taker struct {
	kind int
	subs []*taker
	// ways has how many parses the node has.
	ways table
	// rest has, of a KindSeq and a KindRep, for each number of Subs or rounds that are done, in how many ways those that may follow take a piece; in the last one nothing needs to follow. It is by this that no beginning is told that has no end.
	rest []table
	// must is how many Subs or rounds there are at least. Of a KindRep further rounds aren't empty.
	must int
	// alone says of a KindRep that one empty round may stand alone.
	alone bool
}

// taker answers a node of a right tree as a taker.
func (g ground) taker(t api.Node) *taker {
	switch t.Kind {
	case api.KindBytes:
		return &taker{kind: t.Kind, ways: g.single(t.Set)}
	case api.KindBegin:
		return &taker{kind: t.Kind, ways: g.empty(g.x.Begin)}
	case api.KindEnd:
		return &taker{kind: t.Kind, ways: g.empty(g.x.End)}
	case api.KindSeq:
		return g.inOrder(t)
	case api.KindAlt, api.KindGroup:
		return g.oneOf(t)
	case api.KindRep:
		return g.inRounds(t)
	}
	return &taker{kind: t.Kind, ways: g.empty(everywhere)}
}

// takers answers nodes as takers.
func (g ground) takers(list []api.Node) []*taker {
	var made []*taker
	for _, t := range list {
		made = append(made, g.taker(t))
	}
	return made
}

// oneOf answers a node that takes what one of its Subs takes. A group has the parses of an alternative of one.
func (g ground) oneOf(t api.Node) *taker {
	made := &taker{kind: t.Kind, subs: g.takers(t.Subs), ways: g.table()}
	for _, sub := range made.subs {
		made.ways.addAll(sub.ways)
	}
	return made
}

// inOrder answers a KindSeq.
func (g ground) inOrder(t api.Node) *taker {
	made := &taker{kind: t.Kind, subs: g.takers(t.Subs), must: len(t.Subs)}
	made.rest = make([]table, made.must+1)
	made.rest[made.must] = g.empty(everywhere)
	for done := made.must - 1; done >= 0; done-- {
		made.rest[done] = g.joined(made.subs[done].ways, made.rest[done+1])
	}
	made.ways = made.rest[0]
	return made
}

// inRounds answers a KindRep.
func (g ground) inRounds(t api.Node) *taker {
	made := &taker{kind: t.Kind, must: t.Min}
	if t.Max == 0 {
		// What is never gone through may have any size.
		made.ways = g.empty(everywhere)
		made.rest = []table{made.ways}
		return made
	}
	made.subs = g.takers(t.Subs)
	made.rest = g.rounds(made.subs[0].ways, t)
	made.ways = made.rest[0]
	if t.Min == 0 && !t.Bare {
		made.alone = true
		made.ways = g.table()
		made.ways.addAll(made.rest[0])
		made.ways.addEmpty(made.subs[0].ways)
	}
	return made
}

// rounds answers, for each number of rounds that are done, in how many ways further ones take a piece. Without end all numbers from Min on are alike.
func (g ground) rounds(round table, t api.Node) []table {
	last, behind := t.Max, g.empty(everywhere)
	if t.Max == endless {
		last, behind = t.Min, g.anyRounds(round)
	}
	rest := make([]table, last+1)
	rest[last] = behind
	for done := last - 1; done >= 0; done-- {
		if done < t.Min {
			rest[done] = g.joined(round, rest[done+1])
		} else {
			rest[done] = g.oneMore(round, rest[done+1])
		}
	}
	return rest
}
