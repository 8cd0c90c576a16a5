// Package contract tests that package api has what DOC.md's sections Limits, Errors and Numbers (and chapter 23, of the tags) say.
package contract

import (
	"errors"
	"testing"

	"trawl/api"
)

func TestLimits(t *testing.T) {
	limits := []struct {
		name      string
		got, want int
	}{
		{"MaxPattern", api.MaxPattern, 1024},
		{"MaxNest", api.MaxNest, 32},
		{"MaxCount", api.MaxCount, 255},
		{"MaxSize", api.MaxSize, 2000},
		{"MaxDepth", api.MaxDepth, 200},
		{"MaxNum", api.MaxNum, 999},
		{"MaxSubject", api.MaxSubject, 63},
		{"MaxMany", api.MaxMany, 64},
		{"MaxRoom", api.MaxRoom, 4096},
		{"MaxLine", api.MaxLine, 65536},
		{"MaxWays", api.MaxWays, 1000000},
		{"MaxText", api.MaxText, 64},
	}
	for _, l := range limits {
		if l.got != l.want {
			t.Errorf("%s = %d, want %d", l.name, l.got, l.want)
		}
	}
}

func TestNumbers(t *testing.T) {
	numbers := []struct {
		of   string
		list []int
		want []int
	}{
		{"kinds", []int{api.KindEmpty, api.KindBytes, api.KindBegin, api.KindEnd, api.KindSeq, api.KindAlt, api.KindGroup, api.KindRep}, []int{1, 2, 3, 4, 5, 6, 7, 8}},
		{"flags of compiling", []int{api.Extended, api.Icase, api.Newline, api.Nosub}, []int{1, 2, 4, 8}},
		{"flags of execution", []int{api.NotBol, api.NotEol}, []int{1, 2}},
		{"modes", []int{api.WholeLine, api.WholeWord}, []int{1, 2}},
		{"engines", []int{api.EngineNone, api.EngineSeek, api.EngineCache, api.EngineRanked}, []int{0, 1, 2, 3}},
		{"tags", []int{api.TagNothing, api.TagNull, api.TagGroups, api.TagAnchor, api.TagText, api.TagNeed}, []int{1, 2, 4, 8, 16, 32}},
	}
	for _, n := range numbers {
		for i, want := range n.want {
			if n.list[i] != want {
				t.Errorf("%s: number %d is %d, want %d", n.of, i, n.list[i], want)
			}
		}
	}
}

type sentinel struct {
	err  error
	text string
}

// sentinels are in the order of the document's table.
func sentinels() []sentinel {
	return []sentinel{
		{api.ErrBracket, "trawl: bracket"},
		{api.ErrParen, "trawl: parenthesis"},
		{api.ErrBrace, "trawl: brace"},
		{api.ErrCount, "trawl: count"},
		{api.ErrRange, "trawl: range"},
		{api.ErrClass, "trawl: class"},
		{api.ErrCollate, "trawl: collating"},
		{api.ErrEscape, "trawl: escape"},
		{api.ErrRepeat, "trawl: repeat"},
		{api.ErrTooBig, "trawl: too big"},
		{api.ErrNest, "trawl: nesting"},
		{api.ErrLong, "trawl: long"},
		{api.ErrTree, "trawl: tree"},
		{api.ErrDeep, "trawl: deep"},
		{api.ErrArgument, "trawl: argument"},
		{api.ErrNoMatch, "trawl: no match"},
		{api.ErrImage, "trawl: image"},
		{api.ErrMany, "trawl: many"},
		{api.ErrOption, "trawl: option"},
		{api.ErrCommand, "trawl: command"},
		{api.ErrClosed, "trawl: closed"},
	}
}

func TestSentinels(t *testing.T) {
	list := sentinels()
	if len(list) != 21 {
		t.Fatalf("%d sentinels", len(list))
	}
	for i, s := range list {
		if s.err.Error() != s.text {
			t.Errorf("%q, want %q", s.err.Error(), s.text)
		}
		for j, other := range list {
			if errors.Is(s.err, other.err) != (i == j) {
				t.Errorf("errors.Is of %q and %q", s.text, other.text)
			}
		}
		var fault *api.Fault
		var listed *api.Listed
		if errors.As(s.err, &fault) || errors.As(s.err, &listed) {
			t.Errorf("%q tells a place or a number by itself", s.text)
		}
	}
}

func TestFaultAndListedWrap(t *testing.T) {
	for i, s := range sentinels() {
		var err error = &api.Listed{Index: 3, Err: &api.Fault{At: 7, Err: s.err}}
		if err.Error() != s.text {
			t.Errorf("wrapped %q tells %q", s.text, err.Error())
		}
		for j, other := range sentinels() {
			if errors.Is(err, other.err) != (i == j) {
				t.Errorf("errors.Is of wrapped %q and %q", s.text, other.text)
			}
		}
		var fault *api.Fault
		if !errors.As(err, &fault) || fault.At != 7 || errors.Unwrap(fault) != s.err || fault.Error() != s.text {
			t.Errorf("the Fault in wrapped %q", s.text)
		}
		var listed *api.Listed
		if !errors.As(err, &listed) || listed.Index != 3 || errors.Unwrap(listed) != error(fault) {
			t.Errorf("the Listed in wrapped %q", s.text)
		}
	}
}
