package scene_test

import (
	"math"
	"slices"

	"trawl/scene"
)

// model is a scene told place by place: the tests hold the package against it. Beyond its lists there is neither a byte nor a place.
type model struct {
	text  []byte
	begin []bool
	end   []bool
}

// modelOf reads the chapter's words once more, from byte to place: each byte says of the place ahead of it and of the one behind it what it is.
func modelOf(s string, cflags, eflags int) model {
	n := len(s)
	m := model{text: []byte(s), begin: make([]bool, n+1), end: make([]bool, n+1)}
	m.begin[0] = !on(eflags, 0)
	m.end[n] = !on(eflags, 1)
	for i := range n {
		if on(cflags, 2) && s[i] == 10 {
			m.end[i] = true
			m.begin[i+1] = true
		}
	}
	return m
}

// on tells whether a bit of a number is 1, of a number below 0 too.
func on(flags, bit int) bool { return uint64(flags)>>bit%2 == 1 }

// turned is what the words say of the turned scene: its place i is, of the scene's place n - i, what that one is from the other side.
func (m model) turned() model {
	n := len(m.text)
	var other model
	for i := range n {
		other.text = append(other.text, m.text[n-1-i])
	}
	for i := range n + 1 {
		other.begin = append(other.begin, m.end[n-i])
		other.end = append(other.end, m.begin[n-i])
	}
	return other
}

func (m model) same(other model) bool {
	return slices.Equal(m.text, other.text) && slices.Equal(m.begin, other.begin) && slices.Equal(m.end, other.end)
}

// told is what a scene tells of all its bytes and places, laid as a model.
func told(x *scene.Scene) model {
	m := model{text: []byte(x.Text())}
	for i := range x.Len() + 1 {
		m.begin = append(m.begin, x.Begin(i))
		m.end = append(m.end, x.End(i))
	}
	return m
}

// marks puts what is said of a place together.
func marks(begin, end bool) int {
	switch {
	case begin && end:
		return 3
	case end:
		return 2
	case begin:
		return 1
	}
	return 0
}

// outside are numbers that are no place of a subject of n bytes; less one, or as shorter numbers, some of them would be one.
func outside(n int) []int {
	list := []int{math.MinInt, math.MinInt + 1, math.MinInt32, math.MaxInt32, math.MaxInt, math.MaxInt - 1, -256, -255, n + 256, n + 257, n + 1<<16}
	for i := range n + 2 {
		list = append(list, -1-i, n+1+i, i-1<<32, i+1<<32, math.MinInt+i, math.MaxInt-i)
	}
	return list
}

// short are all subjects of at most five bytes from a small alphabet: newlines, and bytes that might be taken for one.
func short() []string {
	list := []string{""}
	for i := 0; i < len(list) && len(list[i]) < 5; i++ {
		for _, b := range []byte{'\n', 'a', '\r', 0} {
			list = append(list, list[i]+string(b))
		}
	}
	return list
}

// numbers are flags: all of the first few bits, and numbers that have others too.
func numbers() []int {
	list := []int{-1, -2, -3, -4, -5, -7, -8, 1 << 31, 1<<31 | 4, 1<<32 | 1, 1 << 33, 1 << 34, math.MinInt, math.MinInt + 6, math.MaxInt, math.MaxInt - 4, math.MaxInt - 3}
	for i := range 64 {
		list = append(list, i)
	}
	return list
}
