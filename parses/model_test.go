package parses_test

import (
	"math/rand"
	"strconv"
	"strings"
	"testing"

	"trawl/api"
	"trawl/ere"
	"trawl/scene"
)

// ways counts by the words of 'What a tree takes' how many parses a list of trees has over a piece, one tree behind the other. It opens the first tree, be it into a list of its own, and goes on with what is left.
func ways(list []api.Node, x *scene.Scene, from, to int) int {
	if len(list) == 0 {
		return one(from == to)
	}
	t, rest := list[0], list[1:]
	switch t.Kind {
	case 1:
		return ways(rest, x, from, to)
	case 2:
		if b, ok := x.Byte(from); from == to || !ok || t.Set[b/64]>>(b%64)&1 == 0 {
			return 0
		}
		return ways(rest, x, from+1, to)
	case 3:
		return one(x.Begin(from)) * ways(rest, x, from, to)
	case 4:
		return one(x.End(from)) * ways(rest, x, from, to)
	case 6:
		n := 0
		for _, sub := range t.Subs {
			n += ways(before(sub, rest), x, from, to)
		}
		return n
	case 8:
		return repeated(t, rest, x, from, to)
	}
	return ways(before(t.Subs[0], append(t.Subs[1:len(t.Subs):len(t.Subs)], rest...)), x, from, to)
}

// repeated counts how many parses a repeat and a list behind it have: of its first round, and of the repeat that is left behind that.
func repeated(t api.Node, rest []api.Node, x *scene.Scene, from, to int) int {
	n, shortest := 0, from
	if t.Min == 0 {
		n, shortest = ways(rest, x, from, to), from+1
		if t.Max == 0 {
			return n
		}
		if !t.Bare {
			n += ways(t.Subs, x, from, from) * n
		}
	}
	left := t
	left.Min = max(0, t.Min-1)
	left.Bare = left.Min == 0
	if t.Max != -1 {
		left.Max--
	}
	for cut := shortest; cut <= to; cut++ {
		if first := ways(t.Subs, x, from, cut); first > 0 {
			n += first * ways(before(left, rest), x, cut, to)
		}
	}
	return n
}

// before is the list with one tree ahead of it.
func before(t api.Node, list []api.Node) []api.Node {
	return append([]api.Node{t}, list...)
}

func one(holds bool) int {
	if holds {
		return 1
	}
	return 0
}

// told writes a parse: its places, its Pick, if it isn't 0, and what is in it.
func told(p api.Parse) string {
	text := strconv.Itoa(p.From) + "-" + strconv.Itoa(p.To)
	if p.Pick != 0 {
		text += "/" + strconv.Itoa(p.Pick)
	}
	if len(p.Subs) == 0 {
		return text
	}
	var subs []string
	for _, sub := range p.Subs {
		subs = append(subs, told(sub))
	}
	return text + "[" + strings.Join(subs, " ") + "]"
}

// parsed answers the tree of an extended pattern.
func parsed(t *testing.T, p string) api.Node {
	t.Helper()
	n, _, err := ere.Parse(p, 0)
	if err != nil {
		t.Fatalf("%q: %v", p, err)
	}
	return n
}

// bared answers the tree with each repeat bare that may be.
func bared(t api.Node) api.Node {
	subs := make([]api.Node, len(t.Subs))
	for i, sub := range t.Subs {
		subs[i] = bared(sub)
	}
	t.Subs = subs
	t.Bare = t.Kind == api.KindRep && t.Min == 0
	return t
}

// patterns are the trees of all extended patterns of at most so many of these words.
func patterns(words []string, most int) []api.Node {
	var made []api.Node
	longest := []string{""}
	for range most {
		var next []string
		for _, p := range longest {
			for _, w := range words {
				next = append(next, p+w)
			}
		}
		for _, p := range next {
			if n, _, err := ere.Parse(p, 0); err == nil {
				made = append(made, n)
			}
		}
		longest = next
	}
	return made
}

// random writes an extended pattern of about so many atoms, rich in what may be empty.
func random(r *rand.Rand, atoms int) string {
	if atoms <= 1 {
		atoms := []string{"a", "a", "b", ".", "[ab]", "^", "$", "()", "a?", "a*", "b*", "(|a)", "(a{0,2}){0}", "[^\x00-\xff]", "\n"}
		return atoms[r.Intn(len(atoms))]
	}
	cut := 1 + r.Intn(atoms-1)
	switch r.Intn(5) {
	case 0:
		return "(" + random(r, cut) + "|" + random(r, atoms-cut) + ")"
	case 1, 2:
		return random(r, cut) + random(r, atoms-cut)
	}
	repeats := []string{"", "*", "?", "+", "{2}", "{1,2}", "{0,2}", "{2,}", "{0}", "{1}", "{3,5}", "{0,3}"}
	return "(" + random(r, atoms-1) + ")" + repeats[r.Intn(len(repeats))]
}

// text makes a text of bytes that the patterns have, and of one more.
func text(r *rand.Rand, most int) string {
	made := make([]byte, r.Intn(most+1))
	for i := range made {
		made[i] = "aaabb\nc"[r.Intn(7)]
	}
	return string(made)
}
