package fault_test

import (
	"errors"
	"fmt"
	"math"
	"strconv"

	"trawl/api"
	"trawl/fault"
)

// row is a line of the document's table of errors.
type row struct {
	code  int
	err   error
	words string
}

// table is the document's, told by itself: the tests hold the package against it.
func table() []row {
	return []row{
		{1, api.ErrBracket, "bracket"},
		{2, api.ErrParen, "parenthesis"},
		{3, api.ErrBrace, "brace"},
		{4, api.ErrCount, "count"},
		{5, api.ErrRange, "range"},
		{6, api.ErrClass, "class"},
		{7, api.ErrCollate, "collating"},
		{8, api.ErrEscape, "escape"},
		{9, api.ErrRepeat, "repeat"},
		{10, api.ErrTooBig, "too big"},
		{11, api.ErrNest, "nesting"},
		{12, api.ErrLong, "long"},
		{13, api.ErrTree, "tree"},
		{14, api.ErrDeep, "deep"},
		{15, api.ErrArgument, "argument"},
		{16, api.ErrNoMatch, "no match"},
		{17, api.ErrImage, "image"},
		{18, api.ErrMany, "many"},
		{19, api.ErrOption, "option"},
		{20, api.ErrCommand, "command"},
		{21, api.ErrClosed, "closed"},
	}
}

// told is an error, and what the calls are to tell of it.
type told struct {
	name   string
	err    error
	code   int
	words  string
	place  number
	listed number
}

// number is a place or an index, if there is one.
type number struct {
	n  int
	is bool
}

// line is what Tell is to answer.
func (x told) line() string {
	line := ""
	if x.listed.is {
		line += "pattern " + strconv.Itoa(x.listed.n) + ": "
	}
	if x.place.is {
		line += "at " + strconv.Itoa(x.place.n) + ": "
	}
	return line + x.words
}

// texts is an error that can't be held against another one by ==, since it is a slice.
type texts []string

func (t texts) Error() string { return "texts" }

// likened says of itself that it is another error.
type likened struct{ err error }

func (l likened) Error() string        { return "likened" }
func (l likened) Is(target error) bool { return target == l.err }

// placed hands out a Fault or a Listed without wrapping one.
type placed struct{ at, index int }

func (p placed) Error() string { return "placed" }
func (p placed) As(target any) bool {
	switch to := target.(type) {
	case **api.Fault:
		*to = &api.Fault{At: p.at, Err: api.ErrRange}
	case **api.Listed:
		*to = &api.Listed{Index: p.index, Err: api.ErrRange}
	default:
		return false
	}
	return true
}

// plain are errors as they are before At and In wrap them: the sentinels, and others.
func plain() []told {
	var list []told
	for _, r := range table() {
		list = append(list, told{name: r.words, err: r.err, code: r.code, words: r.words})
		list = append(list, told{name: "fmt of " + r.words, err: fmt.Errorf("x: %w", r.err), code: r.code, words: r.words})
		list = append(list, told{name: "likened to " + r.words, err: likened{r.err}, code: r.code, words: r.words})
		list = append(list, told{name: "text of " + r.words, err: errors.New(r.err.Error()), code: -1, words: "other"})
	}
	at := func(n int) number { return number{n, true} }
	return append(list,
		told{name: "other", err: errors.New("x"), code: -1, words: "other"},
		told{name: "empty text", err: errors.New(""), code: -1, words: "other"},
		told{name: "ok as text", err: errors.New("ok"), code: -1, words: "other"},
		told{name: "not comparable", err: texts{"x"}, code: -1, words: "other"},
		told{name: "an empty Fault", err: &api.Fault{}, code: -1, words: "other", place: at(0)},
		told{name: "an empty Listed", err: &api.Listed{}, code: -1, words: "other", listed: at(0)},
		told{name: "the least of two", err: errors.Join(api.ErrClosed, api.ErrParen), code: 2, words: "parenthesis"},
		told{name: "the last of two", err: errors.Join(errors.New("x"), &api.Listed{Index: 8, Err: &api.Fault{At: 4, Err: api.ErrDeep}}), code: 14, words: "deep", place: at(4), listed: at(8)},
		told{name: "the first place of two", err: errors.Join(&api.Fault{At: 6, Err: api.ErrTree}, &api.Fault{At: 4, Err: api.ErrCount}), code: 4, words: "count", place: at(6)},
		told{name: "placed", err: placed{3, 9}, code: -1, words: "other", place: at(3), listed: at(9)},
	)
}

// numbers are places and indexes, wrong ones among them: any number may be told.
func numbers() []int {
	return []int{0, 1, -1, 7, 63, 1024, -300, math.MaxInt32, math.MinInt32, math.MaxInt, math.MinInt}
}

// wrapped are the plain errors wrapped by At and In in every order, up to four of them, with changing numbers.
func wrapped() []told {
	level := plain()
	list := level
	k := 0
	for range 4 {
		var outer []told
		for _, x := range level {
			n := numbers()[k%len(numbers())]
			k++
			a, i := x, x
			a.name, a.err, a.place = "At of "+x.name, fault.At(n, x.err), number{n, true}
			i.name, i.err, i.listed = "In of "+x.name, fault.In(n, x.err), number{n, true}
			outer = append(outer, a, i)
		}
		list = append(list, outer...)
		level = outer
	}
	return list
}
