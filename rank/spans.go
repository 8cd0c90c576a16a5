package rank

import (
	"trawl/api"
	"trawl/scene"
)

// Spans answers the spans of the groups from 0 to a number by the parse p of the tree, and true; nil and false, if Check says no, or there is no such number.
func Spans(t api.Node, x *scene.Scene, p api.Parse, groups int) ([]api.Span, bool) {
	if groups < 0 || groups > api.MaxNum || !Check(t, x, p) {
		return nil, false
	}
	list := newTeller(groups)
	list.tell(0, span(p))
	top := partOf(t)
	list.walk(&top, p)
	return list.spans, true
}

// span answers the span of a parse's piece.
func span(p api.Parse) api.Span {
	return api.Span{From: p.From, To: p.To}
}

// part is a node of the tree, as far as its groups go.
type part struct {
	kind int
	num  int
	subs []part
	// settled says that nothing is left to be told by this node and those below it.
	settled bool
}

// partOf answers the tree as parts. What has no group in it is settled from the beginning.
func partOf(t api.Node) part {
	made := part{kind: t.Kind, num: t.Num, settled: t.Kind != api.KindGroup}
	for _, sub := range t.Subs {
		below := partOf(sub)
		made.subs = append(made.subs, below)
		made.settled = made.settled && below.settled
	}
	return made
}

// teller tells the spans of groups.
type teller struct {
	spans []api.Span
	told  []bool
}

// newTeller answers a teller by which all groups from 0 to a number are nowhere.
func newTeller(groups int) teller {
	made := teller{spans: make([]api.Span, groups+1), told: make([]bool, groups+1)}
	for num := range made.spans {
		made.spans[num] = nowhere()
	}
	return made
}

// nowhere is the span of a group that takes no part.
func nowhere() api.Span {
	return api.Span{From: -1, To: -1}
}

// tell gives a number its span, if it has none yet and is one of those asked for.
func (l *teller) tell(num int, s api.Span) {
	if num < len(l.told) && !l.told[num] {
		l.told[num] = true
		l.spans[num] = s
	}
}

// walk goes over a parse from its end to its beginning, so that the last thing that the chapter's walk says of a number is met first, and stands. So the first time that a group is met tells all that will ever be told of it and of what is in it: its other times, however many rounds it stands in, are passed by.
func (l *teller) walk(t *part, p api.Parse) {
	if t.settled {
		return
	}
	for i := len(p.Subs) - 1; i >= 0; i-- {
		l.walk(&t.subs[taker(t.kind, p.Pick, i)], p.Subs[i])
	}
	if t.kind == api.KindGroup {
		l.tell(t.num, span(p))
		l.settle(t)
	}
}

// settle tells that the groups in a node are nowhere, but for those that have been told.
func (l *teller) settle(t *part) {
	t.settled = true
	for i := range t.subs {
		below := &t.subs[i]
		if below.settled {
			continue
		}
		if below.kind == api.KindGroup {
			l.tell(below.num, nowhere())
		}
		l.settle(below)
	}
}
