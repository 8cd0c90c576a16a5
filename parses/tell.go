package parses

import "trawl/api"

// finder is handed the parses of a piece one by one. It answers false, if it wants no more of them.
type finder func(p api.Parse) bool

// ender is handed what a node's parse has beside its places, and makes the parse of it for a finder.
type ender func(pick int, subs []api.Parse) bool

// tell hands all parses of a piece that has some to found, the best first, till found wants no more: then it answers false.
func (n *taker) tell(from, to int, found finder) bool {
	end := func(pick int, subs []api.Parse) bool {
		return found(api.Parse{From: from, To: to, Pick: pick, Subs: subs})
	}
	switch n.kind {
	case api.KindAlt, api.KindGroup:
		return n.tellPicks(from, to, end)
	case api.KindSeq:
		return n.tellLists(0, from, to, nil, end)
	case api.KindRep:
		return n.tellAlone(from, to, end) && n.tellLists(0, from, to, nil, end)
	}
	return end(0, nil)
}

// tellPicks tells all parses by one of the Subs, those by the first one first.
func (n *taker) tellPicks(from, to int, end ender) bool {
	for pick, sub := range n.subs {
		if sub.ways.at(from, to) == 0 {
			continue
		}
		if !sub.tell(from, to, func(p api.Parse) bool { return end(pick, []api.Parse{p}) }) {
			return false
		}
	}
	return true
}

// tellAlone tells all parses of a repeat by just one round that is empty, if there may be one. They come ahead of that without a round, since of two lists the one that goes on is better.
func (n *taker) tellAlone(from, to int, end ender) bool {
	if !n.alone || from != to || n.subs[0].ways.at(from, to) == 0 {
		return true
	}
	return n.subs[0].tell(from, to, func(p api.Parse) bool { return end(0, []api.Parse{p}) })
}

// tellLists tells all lists of Subs or rounds that begin with the done ones of left and go on from a place up to another one. What follows next is as long as it may be at first; all that may stand behind a parse of it is told ahead of its next parse.
func (n *taker) tellLists(done, from, to int, left []api.Parse, end ender) bool {
	if done >= n.must && from == to {
		return end(0, left)
	}
	sub, next := n.sub(done), n.next(done)
	for cut := to; cut >= n.shortest(done, from); cut-- {
		if sub.ways.at(from, cut) == 0 || n.rest[next].at(cut, to) == 0 {
			continue
		}
		// What an earlier parse has left behind left may be written over: all that stands behind that one has been told.
		behind := func(p api.Parse) bool {
			return n.tellLists(next, cut, to, append(left, p), end)
		}
		if !sub.tell(from, cut, behind) {
			return false
		}
	}
	return true
}

// sub answers what takes the next piece behind done ones.
func (n *taker) sub(done int) *taker {
	if n.kind == api.KindSeq {
		return n.subs[done]
	}
	return n.subs[0]
}

// next answers how many are done when one more is, as far as that makes a difference.
func (n *taker) next(done int) int {
	return min(done+1, len(n.rest)-1)
}

// shortest answers the least place to which the next piece behind done ones may go.
func (n *taker) shortest(done, from int) int {
	if done >= n.must {
		return from + 1
	}
	return from
}
