package parses

import (
	"trawl/api"
	"trawl/octet"
	"trawl/scene"
)

// ground is the piece of a scene within which parses are looked for.
type ground struct {
	x        *scene.Scene
	from, to int
}

// table has, for each piece of a ground, in how many ways it is taken, MaxWays at most.
type table struct {
	from, to int
	cells    []int32
}

// table answers one in which no piece is taken.
func (g ground) table() table {
	places := g.to - g.from + 1
	return table{from: g.from, to: g.to, cells: make([]int32, places*places)}
}

// single answers the table of the pieces of one byte that is in the set.
func (g ground) single(s api.Set) table {
	made := g.table()
	for from := g.from; from < g.to; from++ {
		if b, _ := g.x.Byte(from); octet.Has(s, b) {
			made.add(from, from+1, 1)
		}
	}
	return made
}

// empty answers the table of the empty pieces at those places of which at holds.
func (g ground) empty(at func(int) bool) table {
	made := g.table()
	for place := g.from; place <= g.to; place++ {
		if at(place) {
			made.add(place, place, 1)
		}
	}
	return made
}

// everywhere holds of every place.
func everywhere(int) bool {
	return true
}

// cell answers where the number of a piece stands.
func (t table) cell(from, to int) *int32 {
	return &t.cells[(from-t.from)*(t.to-t.from+1)+to-t.from]
}

// at answers in how many ways a piece is taken.
func (t table) at(from, to int) int {
	return int(*t.cell(from, to))
}

// add tells of further ways in which a piece is taken. They may be as many as MaxWays by MaxWays.
func (t table) add(from, to int, ways int64) {
	cell := t.cell(from, to)
	*cell = int32(min(int64(*cell)+ways, api.MaxWays))
}

// addEmpty adds to the empty pieces the ways that they have in another table.
func (t table) addEmpty(other table) {
	for place := t.from; place <= t.to; place++ {
		t.add(place, place, int64(other.at(place, place)))
	}
}

// addAll adds to all pieces the ways that they have in another table.
func (t table) addAll(other table) {
	for from := t.from; from <= t.to; from++ {
		for to := from; to <= t.to; to++ {
			t.add(from, to, int64(other.at(from, to)))
		}
	}
}

// addJoined adds to the pieces from a place on the ways in which they can be cut into one of a, of so many bytes at least, and one of b behind it.
func (t table) addJoined(from, least int, a, b table) {
	for cut := from + least; cut <= t.to; cut++ {
		ways := int64(a.at(from, cut))
		if ways == 0 {
			continue
		}
		for to := cut; to <= t.to; to++ {
			t.add(from, to, ways*int64(b.at(cut, to)))
		}
	}
}

// joined answers in how many ways a piece can be cut into one of a, and one of b behind it.
func (g ground) joined(a, b table) table {
	made := g.table()
	for from := g.from; from <= g.to; from++ {
		made.addJoined(from, 0, a, b)
	}
	return made
}

// oneMore answers in how many ways a piece is empty, or can be cut into a round that isn't, and one of rest behind it.
func (g ground) oneMore(round, rest table) table {
	made := g.empty(everywhere)
	for from := g.from; from <= g.to; from++ {
		made.addJoined(from, 1, round, rest)
	}
	return made
}

// anyRounds answers in how many ways a piece can be cut into any number of rounds, none of which is empty. It goes from the last place to the first, so that what stands behind a round is known ahead of it.
func (g ground) anyRounds(round table) table {
	made := g.empty(everywhere)
	for from := g.to; from >= g.from; from-- {
		made.addJoined(from, 1, round, made)
	}
	return made
}
