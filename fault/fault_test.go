package fault_test

import (
	"errors"
	"math"
	"testing"

	"trawl/api"
	"trawl/fault"
)

func TestP3_1At(t *testing.T) {
	for _, x := range plain() {
		for _, n := range numbers() {
			got, ok := fault.At(n, x.err).(*api.Fault)
			if !ok || got == nil {
				t.Fatalf("At(%d, %s) is no *api.Fault", n, x.name)
			}
			if got.At != n || !same(got.Err, x.err) {
				t.Errorf("At(%d, %s) = %d, %v", n, x.name, got.At, got.Err)
			}
		}
	}
}

func TestP3_1In(t *testing.T) {
	for _, x := range plain() {
		for _, n := range numbers() {
			got, ok := fault.In(n, x.err).(*api.Listed)
			if !ok || got == nil {
				t.Fatalf("In(%d, %s) is no *api.Listed", n, x.name)
			}
			if got.Index != n || !same(got.Err, x.err) {
				t.Errorf("In(%d, %s) = %d, %v", n, x.name, got.Index, got.Err)
			}
		}
	}
}

// same holds two errors against each other; of those that aren't comparable it holds the first text.
func same(a, b error) bool {
	if x, ok := a.(texts); ok {
		y, ok := b.(texts)
		return ok && &x[0] == &y[0]
	}
	return a == b
}

func TestP3_1Nil(t *testing.T) {
	for _, n := range numbers() {
		if err := fault.At(n, nil); err != nil {
			t.Errorf("At(%d, nil) = %v", n, err)
		}
		if err := fault.In(n, nil); err != nil {
			t.Errorf("In(%d, nil) = %v", n, err)
		}
		if err := fault.In(n, fault.At(n, nil)); err != nil {
			t.Errorf("In(%d, At(%d, nil)) = %v", n, n, err)
		}
	}
	if got := fault.Code(nil); got != 0 {
		t.Errorf("Code(nil) = %d", got)
	}
	if n, ok := fault.Place(nil); n != 0 || ok {
		t.Errorf("Place(nil) = %d, %v", n, ok)
	}
	if n, ok := fault.Index(nil); n != 0 || ok {
		t.Errorf("Index(nil) = %d, %v", n, ok)
	}
	if got := fault.Tell(nil); got != "" {
		t.Errorf("Tell(nil) = %q", got)
	}
}

func TestP3_1NewAndUnchanged(t *testing.T) {
	inner := &api.Fault{At: 3, Err: api.ErrBrace}
	listed := &api.Listed{Index: 4, Err: inner}
	for _, wrap := range []func(int, error) error{fault.At, fault.In} {
		for _, err := range []error{inner, listed, api.ErrBrace} {
			if one, two := wrap(9, err), wrap(9, err); one == two || one == err {
				t.Errorf("no new error around %#v", err)
			}
		}
	}
	if *inner != (api.Fault{At: 3, Err: api.ErrBrace}) || *listed != (api.Listed{Index: 4, Err: inner}) {
		t.Errorf("what was wrapped has changed: %v, %v", *inner, *listed)
	}
}

func TestP3_1Code(t *testing.T) {
	for _, x := range wrapped() {
		if got := fault.Code(x.err); got != x.code {
			t.Errorf("Code(%s) = %d, want %d", x.name, got, x.code)
		}
	}
}

func TestP3_1CodeIsTheLeast(t *testing.T) {
	for _, a := range table() {
		for _, b := range table() {
			want := min(a.code, b.code)
			for _, err := range []error{errors.Join(a.err, b.err), fault.At(1, errors.Join(fault.In(2, a.err), errors.New("x"), b.err))} {
				if got := fault.Code(err); got != want {
					t.Errorf("Code of %s and %s = %d", a.words, b.words, got)
				}
			}
		}
	}
}

func TestP3_1Place(t *testing.T) {
	for _, x := range wrapped() {
		if n, ok := fault.Place(x.err); n != x.place.n || ok != x.place.is {
			t.Errorf("Place(%s) = %d, %v, want %v", x.name, n, ok, x.place)
		}
	}
}

func TestP3_1Index(t *testing.T) {
	for _, x := range wrapped() {
		if n, ok := fault.Index(x.err); n != x.listed.n || ok != x.listed.is {
			t.Errorf("Index(%s) = %d, %v, want %v", x.name, n, ok, x.listed)
		}
	}
}

func TestP3_1Word(t *testing.T) {
	if got := fault.Word(0); got != "ok" {
		t.Errorf("Word(0) = %q", got)
	}
	for _, r := range table() {
		if got := fault.Word(r.code); got != r.words {
			t.Errorf("Word(%d) = %q, want %q", r.code, got, r.words)
		}
	}
}

func TestP3_1WordOfNoNumber(t *testing.T) {
	list := []int{math.MinInt, math.MinInt32, math.MaxInt32, math.MaxInt, 256, 257, 1 << 16, 1 << 32, 1<<32 + 1}
	for n := -300; n < 0; n++ {
		list = append(list, n)
	}
	for n := 22; n < 300; n++ {
		list = append(list, n)
	}
	for _, n := range list {
		if got := fault.Word(n); got != "" {
			t.Errorf("Word(%d) = %q", n, got)
		}
	}
}

func TestP3_1Tell(t *testing.T) {
	for _, x := range wrapped() {
		if got := fault.Tell(x.err); got != x.line() {
			t.Errorf("Tell(%s) = %q, want %q", x.name, got, x.line())
		}
	}
}

// secret panics whatever it is asked: what it wraps, what it is, what it can be made to.
type secret struct{}

func (secret) Error() string { panic("Error") }
func (secret) Unwrap() error { panic("Unwrap") }
func (secret) Is(error) bool { panic("Is") }
func (secret) As(any) bool   { panic("As") }

// shut panics only when it is asked what it wraps.
type shut struct{}

func (shut) Error() string { return "shut" }
func (shut) Unwrap() error { panic(errors.New("shut")) }

// hollow says that it is whatever it is asked for, and hands out nothing.
type hollow struct{}

func (hollow) Error() string { return "hollow" }
func (hollow) As(any) bool   { return true }

func TestP3_1NeverPanics(t *testing.T) {
	for _, err := range []error{secret{}, shut{}, errors.Join(errors.New("x"), secret{}), hollow{}} {
		if got := fault.Tell(err); got != "other" {
			t.Errorf("Tell(%T) = %q", err, got)
		}
		if n, ok := fault.Place(err); n != 0 || ok {
			t.Errorf("Place(%T) = %d, %v", err, n, ok)
		}
		if n, ok := fault.Index(err); n != 0 || ok {
			t.Errorf("Index(%T) = %d, %v", err, n, ok)
		}
		if got := fault.Tell(fault.In(2, fault.At(5, err))); got != "pattern 2: at 5: other" {
			t.Errorf("Tell of wrapped %T = %q", err, got)
		}
		if got := fault.Code(errors.Join(api.ErrNest, err)); got != 11 {
			t.Errorf("Code of %T behind a sentinel = %d", err, got)
		}
	}
}

func TestP3_1Examples(t *testing.T) {
	err := fault.At(5, api.ErrParen)
	place, placed := fault.Place(err)
	index, listed := fault.Index(err)
	if fault.Code(err) != 2 || place != 5 || !placed || index != 0 || listed {
		t.Errorf("At(5, ErrParen): %d, %d %v, %d %v", fault.Code(err), place, placed, index, listed)
	}
	lines := []struct {
		err  error
		want string
	}{
		{err, "at 5: parenthesis"},
		{fault.In(2, fault.At(0, api.ErrRange)), "pattern 2: at 0: range"},
		{api.ErrTooBig, "too big"},
		{fault.At(1, fault.At(9, api.ErrCount)), "at 1: count"},
	}
	for _, l := range lines {
		if got := fault.Tell(l.err); got != l.want {
			t.Errorf("Tell = %q, want %q", got, l.want)
		}
	}
	if fault.At(3, nil) != nil || fault.Word(0) != "ok" || fault.Word(22) != "" {
		t.Error("At(3, nil), Word(0), Word(22)")
	}
}

func TestP3_2WhatIsFoundStays(t *testing.T) {
	for _, x := range wrapped() {
		at, in := fault.At(6, x.err), fault.In(7, x.err)
		for _, r := range table() {
			want := errors.Is(x.err, r.err)
			if errors.Is(at, r.err) != want || errors.Is(in, r.err) != want {
				t.Errorf("%s: %s is found no more, or is found now", x.name, r.words)
			}
		}
		if code := fault.Code(x.err); fault.Code(at) != code || fault.Code(in) != code {
			t.Errorf("Code of %s has changed", x.name)
		}
		if at.Error() != x.err.Error() || in.Error() != x.err.Error() {
			t.Errorf("the text of %s has changed", x.name)
		}
	}
}

func TestP3_2TheLastOneCounts(t *testing.T) {
	for _, x := range wrapped() {
		for _, n := range numbers() {
			at, in := fault.At(n, x.err), fault.In(n, x.err)
			if place, ok := fault.Place(at); place != n || !ok {
				t.Errorf("the place of At(%d, %s) = %d, %v", n, x.name, place, ok)
			}
			if index, ok := fault.Index(in); index != n || !ok {
				t.Errorf("the index of In(%d, %s) = %d, %v", n, x.name, index, ok)
			}
			if index, ok := fault.Index(at); index != x.listed.n || ok != x.listed.is {
				t.Errorf("the index of At(%d, %s) = %d, %v", n, x.name, index, ok)
			}
			if place, ok := fault.Place(in); place != x.place.n || ok != x.place.is {
				t.Errorf("the place of In(%d, %s) = %d, %v", n, x.name, place, ok)
			}
		}
	}
}

// mostNested is how many parts the document lets stand in one another.
const mostNested = 1 << 16

func TestP3_2ManyTimesWrapped(t *testing.T) {
	for _, r := range table() {
		err := fault.In(-2, fault.At(-1, r.err))
		for n := range mostNested/2 - 1 {
			err = fault.At(n, err)
			err = fault.In(n+1, err)
		}
		want := "pattern 32767: at 32766: " + r.words
		if got := fault.Tell(err); got != want {
			t.Errorf("Tell = %q, want %q", got, want)
		}
	}
	err := errors.New("x")
	for n := range mostNested {
		err = fault.At(n, err)
	}
	if got := fault.Tell(err); got != "at 65535: other" {
		t.Errorf("Tell = %q", got)
	}
	if _, ok := fault.Index(err); ok {
		t.Error("an index, where none was told")
	}
}
