package octet_test

import (
	"iter"
	"slices"

	"trawl/api"
)

// model is a set told byte by byte; the tests hold the package against it, since it shares no means with the package.
type model [256]bool

func modelOf(bytes ...byte) model {
	var m model
	for _, b := range bytes {
		m[b] = true
	}
	return m
}

// set lays the bits by the words of api.Set alone, without a call of the package.
func (m model) set() api.Set {
	var s api.Set
	for b, in := range m {
		if in {
			s[b/64] += 1 << (b % 64)
		}
	}
	return s
}

func (m model) bytes() []byte {
	var list []byte
	for b, in := range m {
		if in {
			list = append(list, byte(b))
		}
	}
	return list
}

func (m model) has(b int) bool {
	return b >= 0 && b < len(m) && m[b]
}

func (m model) rows() []row {
	var list []row
	for lo := range m {
		if !m.has(lo) || m.has(lo-1) {
			continue
		}
		hi := lo
		for m.has(hi + 1) {
			hi++
		}
		list = append(list, row{byte(lo), byte(hi)})
	}
	return list
}

// by makes a set of what a rule says of each byte.
func by(rule func(b int) bool) model {
	var m model
	for b := range m {
		m[b] = rule(b)
	}
	return m
}

type row struct{ lo, hi byte }

func collect(rows iter.Seq2[byte, byte]) []row {
	var list []row
	for lo, hi := range rows {
		list = append(list, row{lo, hi})
	}
	return list
}

// models are the sets that every promise is tried on: none, one and all bytes, the words' edges, and mixed ones.
func models() []model {
	list := []model{
		{},
		by(func(int) bool { return true }),
		modelOf(0), modelOf(63), modelOf(64), modelOf(127), modelOf(128), modelOf(191), modelOf(192), modelOf(255),
		modelOf(255, 0, 1, 64, 63),
		modelOf(0, 255),
		modelOf(10),
		by(func(b int) bool { return b != 0 }),
		by(func(b int) bool { return b != 255 }),
		by(func(b int) bool { return b != 63 }),
		by(func(b int) bool { return b != 64 }),
		by(func(b int) bool { return b%2 == 0 }),
		by(func(b int) bool { return b%2 == 1 }),
		by(func(b int) bool { return b < 64 }),
		by(func(b int) bool { return b >= 64 && b < 128 }),
		by(func(b int) bool { return b >= 63 && b <= 128 }),
		by(func(b int) bool { return b >= 192 }),
		by(func(b int) bool { return b >= 'a' && b <= 'z' }),
	}
	state := uint32(1)
	for i := range 24 {
		list = append(list, by(func(int) bool {
			state = state*1664525 + 1013904223
			return int(state>>24)%24 <= i
		}))
	}
	return list
}

// orders are lists with the same sets as the one handed in: in other orders, and some of them more than once.
func orders[T any](list []T) [][]T {
	turned := slices.Clone(list)
	slices.Reverse(turned)
	twice := slices.Concat(list, list)
	mixed := slices.Clone(list)
	for i, item := range turned {
		mixed = slices.Insert(mixed, (i*7)%(len(mixed)+1), item)
	}
	answer := [][]T{turned, twice, mixed}
	for i := range list {
		answer = append(answer, slices.Concat(list[i:], list[:i]))
	}
	return answer
}
