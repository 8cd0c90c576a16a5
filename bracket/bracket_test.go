package bracket_test

import (
	"math"
	"strings"
	"testing"

	"trawl/api"
	"trawl/bracket"
	"trawl/class"
	"trawl/octet"
)

// flagsTried are all that Read looks at, alone and with all bits that are nothing to it.
func flagsTried() []int {
	rest := ^(api.Icase | api.Newline)
	return []int{0, 2, 4, 6, rest, rest | 2, rest | 4, -1}
}

func TestP5_1Examples(t *testing.T) {
	digit := octet.Range('0', '9')
	for _, c := range []struct {
		p         string
		at, flags int
		set       api.Set
		next      int
	}{
		{"[]a]", 0, 0, octet.Of(']', 'a'), 4},
		{"[^]]", 0, 0, octet.Not(octet.Of(']')), 4},
		{"[a-c-e]", 0, 0, octet.Of('a', 'b', 'c', '-', 'e'), 7},
		{"[a-]", 0, 0, octet.Of('a', '-'), 4},
		{"[+--]", 0, 0, octet.Of('+', ',', '-'), 5},
		{"[[:digit:]x]", 0, 0, octet.Join(digit, octet.Of('x')), 12},
		{`[\]`, 0, 0, octet.Of('\\'), 3},
		{"[a[]", 0, 0, octet.Of('a', '['), 4},
		{"[aB]", 0, 2, octet.Of('a', 'A', 'b', 'B'), 4},
		{"[^a]", 0, 4, octet.Less(octet.Not(octet.Of('a')), octet.Of(10)), 4},
		{"x[a]y", 1, 0, octet.Of('a'), 4},
	} {
		hold(t, c.p, c.at, c.flags, told{set: c.set, next: c.next})
	}
	if set, _, _ := bracket.Read("[^a]", 0, 4); octet.Count(set) != 254 {
		t.Errorf("[^a] with Newline has %d bytes", octet.Count(set))
	}
}

func TestP5_1FaultsOfTheExamples(t *testing.T) {
	for _, c := range []struct {
		p  string
		at int
		told
	}{
		{"[", 0, fails(api.ErrBracket, 0)},
		{"[]", 0, fails(api.ErrBracket, 0)},
		{"[^]", 0, fails(api.ErrBracket, 0)},
		{"[a", 0, fails(api.ErrBracket, 0)},
		{"[[:alpha", 0, fails(api.ErrBracket, 0)},
		{"[a-", 0, fails(api.ErrBracket, 0)},
		{"[[:x:]", 0, fails(api.ErrClass, 1)},
		{"[a[.b.]]", 0, fails(api.ErrCollate, 2)},
		{"[x[=y=]]", 0, fails(api.ErrCollate, 2)},
		{"[a-[.b.]]", 0, fails(api.ErrCollate, 3)},
		{"[b-a]", 0, fails(api.ErrRange, 1)},
		{"[a-[:digit:]]", 0, fails(api.ErrRange, 1)},
		{"a", 0, fails(api.ErrArgument, nowhere)},
		{"[a]", 1, fails(api.ErrArgument, nowhere)},
		{"[a]", -1, fails(api.ErrArgument, nowhere)},
		{"", 0, fails(api.ErrArgument, nowhere)},
	} {
		hold(t, c.p, c.at, 0, c.told)
	}
}

func TestP5_1Items(t *testing.T) {
	alpha := octet.Join(octet.Range('A', 'Z'), octet.Range('a', 'z'))
	for p, want := range map[string]api.Set{
		"[]]":                   octet.Of(']'),
		"[]-]":                  octet.Of(']', '-'),
		"[]-a]":                 octet.Range(']', 'a'),
		"[^]-a]":                octet.Not(octet.Range(']', 'a')),
		"[^]a]":                 octet.Not(octet.Of(']', 'a')),
		"[^^]":                  octet.Not(octet.Of('^')),
		"[a^]":                  octet.Of('a', '^'),
		"[^-]":                  octet.Not(octet.Of('-')),
		"[-]":                   octet.Of('-'),
		"[--]":                  octet.Of('-'),
		"[---]":                 octet.Of('-'),
		"[----]":                octet.Of('-'),
		"[--/]":                 octet.Of('-', '.', '/'),
		"[-a]":                  octet.Of('-', 'a'),
		"[a-a]":                 octet.Of('a'),
		"[a-c--]":               octet.Of('a', 'b', 'c', '-'),
		"[a-c-]":                octet.Of('a', 'b', 'c', '-'),
		"[a-cb-e]":              octet.Range('a', 'e'),
		"[[]":                   octet.Of('['),
		"[[-]":                  octet.Of('[', '-'),
		"[[-`]":                 octet.Range('[', '`'),
		"[[-[]":                 octet.Of('['),
		"[A-[]":                 octet.Range('A', '['),
		"[[[]":                  octet.Of('['),
		"[[a.]":                 octet.Of('[', 'a', '.'),
		"[.a.=:]":               octet.Of('.', 'a', '=', ':'),
		"[.-=]":                 octet.Range('.', '='),
		`[\n]`:                  octet.Of('\\', 'n'),
		"[$*.|(){}+?]":          octet.Of('$', '*', '.', '|', '(', ')', '{', '}', '+', '?'),
		"[\n]":                  octet.Of(10),
		"[\x00-\xff]":           octet.Range(0, 255),
		"[\x80\xff]":            octet.Of(128, 255),
		"[é]":                   octet.Of(0xc3, 0xa9),
		"[[:alpha:]]":           alpha,
		"[[:alpha:]-]":          octet.Join(alpha, octet.Of('-')),
		"[[:alpha:]-z]":         octet.Join(alpha, octet.Of('-')),
		"[[:alpha:]--/]":        octet.Join(alpha, octet.Range('-', '/')),
		"[^[:alpha:]]":          octet.Not(alpha),
		"[^[:alpha:]1]":         octet.Not(octet.Join(alpha, octet.Of('1'))),
		"[[:alpha:][:d]":        {},
		"[[:digit:][:digit:]a]": octet.Join(octet.Range('0', '9'), octet.Of('a')),
	} {
		if p == "[[:alpha:][:d]" {
			hold(t, p, 0, 0, fails(api.ErrBracket, 0))
			continue
		}
		hold(t, p, 0, 0, told{set: want, next: len(p)})
	}
}

func TestP5_1EachByte(t *testing.T) {
	for b := range 256 {
		one := octet.Of(byte(b))
		p := string([]byte{'[', byte(b), ']'})
		if b == '^' {
			p = "[-^]"
			one = octet.Of('-', '^')
		}
		hold(t, p, 0, 0, told{set: one, next: len(p)})
		folded := octet.Join(one, octet.Of(class.Other(byte(b))))
		hold(t, p, 0, api.Icase, told{set: folded, next: len(p)})
		hold(t, p, 0, api.Newline, told{set: one, next: len(p)})
		turned := "[^" + p[1:]
		hold(t, turned, 0, 0, told{set: octet.Not(one), next: len(turned)})
		hold(t, turned, 0, api.Icase, told{set: octet.Not(folded), next: len(turned)})
		hold(t, turned, 0, api.Newline, told{set: octet.Less(octet.Not(one), octet.Of(10)), next: len(turned)})
	}
}

func TestP5_1EachRange(t *testing.T) {
	for lo := range 256 {
		for hi := range 256 {
			if lo == '^' || hi == ']' {
				continue
			}
			p := string([]byte{'[', byte(lo), '-', byte(hi), ']'})
			if hi < lo {
				hold(t, p, 0, 0, fails(api.ErrRange, 1))
				continue
			}
			hold(t, p, 0, 0, told{set: octet.Range(byte(lo), byte(hi)), next: 5})
		}
	}
}

func TestP5_1EachClass(t *testing.T) {
	for _, name := range class.Names() {
		set, err := class.Named(name)
		if err != nil {
			t.Fatal(name, err)
		}
		p := "[[:" + name + ":]]"
		hold(t, p, 0, 0, told{set: set, next: len(p)})
		hold(t, p, 0, api.Icase, told{set: class.Fold(set), next: len(p)})
		hold(t, "[x"+p[1:], 0, 0, told{set: octet.Join(set, octet.Of('x')), next: len(p) + 1})
		hold(t, "[x[:"+strings.ToUpper(name)+":]]", 0, api.Icase, fails(api.ErrClass, 2))
		hold(t, "[^[: "+name+":]]", 0, 0, fails(api.ErrClass, 2))
	}
}

func TestP5_1WhichFault(t *testing.T) {
	for p, want := range map[string]told{
		"[^":             fails(api.ErrBracket, 0),
		"[]a":            fails(api.ErrBracket, 0),
		"[^]a":           fails(api.ErrBracket, 0),
		"[[":             fails(api.ErrBracket, 0),
		"[a-c":           fails(api.ErrBracket, 0),
		"[[:alpha:]":     fails(api.ErrBracket, 0),
		"[[:alpha:][:d":  fails(api.ErrBracket, 0),
		"[[:]":           fails(api.ErrBracket, 0),
		"[[:]]":          fails(api.ErrBracket, 0),
		"[[:alpha:":      fails(api.ErrBracket, 0),
		"[[:alpha]":      fails(api.ErrBracket, 0),
		"[[:alpha]:":     fails(api.ErrBracket, 0),
		"[[:alpha.]]":    fails(api.ErrBracket, 0),
		"[ab[:-z]":       fails(api.ErrBracket, 0),
		"[[::]]":         fails(api.ErrClass, 1),
		"[[:::]]":        fails(api.ErrClass, 1),
		"[[:alpha]x:]]":  fails(api.ErrClass, 1),
		"[[:alpha":       fails(api.ErrBracket, 0),
		"[a[:x:]b-a]":    fails(api.ErrClass, 2),
		"[b-a[:x:]]":     fails(api.ErrRange, 1),
		"[b-a":           fails(api.ErrRange, 1),
		"[z-[]":          fails(api.ErrRange, 1),
		"[a-[":           fails(api.ErrRange, 1),
		"[A-[":           fails(api.ErrBracket, 0),
		"[A-[:x":         fails(api.ErrRange, 1),
		"[A-[:digit:]]":  fails(api.ErrRange, 1),
		"[xA-[:digit:]]": fails(api.ErrRange, 2),
		"[a--]":          fails(api.ErrRange, 1),
		"[^b-a]":         fails(api.ErrRange, 2),
		"[z-ab-a]":       fails(api.ErrRange, 1),
		"[ab-a]":         fails(api.ErrRange, 2),
		"[].-+]":         fails(api.ErrRange, 2),
		"[[.":            fails(api.ErrCollate, 1),
		"[[=":            fails(api.ErrCollate, 1),
		"[^[.a.]]":       fails(api.ErrCollate, 2),
		"[^[=a=]]":       fails(api.ErrCollate, 2),
		"[A-[.":          fails(api.ErrCollate, 3),
		"[A-[=a=]]":      fails(api.ErrCollate, 3),
		"[[-[=a=]]":      fails(api.ErrCollate, 3),
		"[[.-z]":         fails(api.ErrCollate, 1),
		"[[.a.][:x:]]":   fails(api.ErrCollate, 1),
		"[[:x:][.a.]]":   fails(api.ErrClass, 1),
		"[a[":            fails(api.ErrBracket, 0),
	} {
		for _, flags := range flagsTried() {
			hold(t, p, 0, flags, want)
		}
	}
}

func TestP5_1Flags(t *testing.T) {
	all := octet.Range(0, 255)
	letters := octet.Of('k', 'K')
	for _, c := range []struct {
		p    string
		want [4]api.Set // of no flag, Icase, Newline, both
	}{
		{"[k]", [4]api.Set{octet.Of('k'), letters, octet.Of('k'), letters}},
		{"[^k]", [4]api.Set{octet.Not(octet.Of('k')), octet.Not(letters), octet.Not(octet.Of('k', 10)), octet.Not(octet.Of('k', 'K', 10))}},
		{"[\n]", [4]api.Set{octet.Of(10), octet.Of(10), octet.Of(10), octet.Of(10)}},
		{"[^\n]", [4]api.Set{octet.Not(octet.Of(10)), octet.Not(octet.Of(10)), octet.Not(octet.Of(10)), octet.Not(octet.Of(10))}},
		{"[\x00-\xff]", [4]api.Set{all, all, all, all}},
		{"[^\x00-\xff]", [4]api.Set{}},
		{"[@-[]", [4]api.Set{octet.Range('@', '['), octet.Join(octet.Range('@', '['), octet.Range('a', 'z')), octet.Range('@', '['), octet.Join(octet.Range('@', '['), octet.Range('a', 'z'))}},
	} {
		for _, flags := range flagsTried() {
			hold(t, c.p, 0, flags, told{set: c.want[flags>>1&3], next: len(c.p)})
		}
	}
}

func TestP5_1Arguments(t *testing.T) {
	for _, p := range []string{"", "[a]", "]", "a[b]", "[[a]]", "\\[a]"} {
		places := []int{-1, -len(p), -len(p) - 1, len(p), len(p) + 1, math.MaxInt, math.MinInt, math.MaxInt32, math.MinInt32}
		for i := range p {
			if p[i] != '[' {
				places = append(places, i)
			}
		}
		for _, at := range places {
			for _, flags := range flagsTried() {
				hold(t, p, at, flags, fails(api.ErrArgument, nowhere))
			}
		}
	}
}

func TestP5_1AllShortOnes(t *testing.T) {
	for _, p := range made("[", 4, parts()) {
		want := model(p, 0, 6)
		hold(t, p, 0, 6, want)
		hold(t, p+"]", 0, 0, model(p+"]", 0, 0))
		if t.Failed() {
			return
		}
	}
	for _, p := range made("[", 7, []string{"[", "]", "-", ":", "a"}) {
		hold(t, p, 0, 0, model(p, 0, 0))
		if t.Failed() {
			return
		}
	}
}

func TestP5_1Mixed(t *testing.T) {
	for _, p := range mixed(20000) {
		for _, flags := range []int{0, 2, 4, -1} {
			hold(t, p, 0, flags, model(p, 0, flags))
		}
		if t.Failed() {
			return
		}
	}
}

func TestP5_1EveryPlace(t *testing.T) {
	for _, p := range mixed(300) {
		p = "a" + p + p
		for at := -2; at < len(p)+2; at++ {
			hold(t, p, at, 0, model(p, at, 0))
		}
	}
}

func TestP5_1LongOnes(t *testing.T) {
	const n = 1 << 20
	a := strings.Repeat("a", n)
	hold(t, "["+a+"]", 0, 0, told{set: octet.Of('a'), next: n + 2})
	hold(t, "["+a, 0, 0, fails(api.ErrBracket, 0))
	hold(t, "[[:"+a+":]]", 0, 0, fails(api.ErrClass, 1))
	hold(t, "["+strings.Repeat("[:digit:]", n/8)+"]", 0, 0, told{set: octet.Range('0', '9'), next: n/8*9 + 2})
	hold(t, a+"[b]", n, 0, told{set: octet.Of('b'), next: n + 3})
	hold(t, a+"[b-a]", n, 0, fails(api.ErrRange, n+1))
	hold(t, a+"[", n, 0, fails(api.ErrBracket, n))
}

// goodOnes are expressions without a fault.
func goodOnes() []string {
	list := mixed(3000)
	list = append(list, made("[", 3, parts())...)
	list = append(list, "[]a]", "[^]]", "[a-]", "[A-[]", "[[]", "[[:digit:]-]", "[\n]", "[^\n]")
	var good []string
	for _, p := range list {
		if want := model(p, 0, 0); want.err == nil && want.next == len(p) {
			good = append(good, p)
		}
	}
	return good
}

func TestP5_2WhatStandsAround(t *testing.T) {
	good := goodOnes()
	if len(good) < 500 {
		t.Fatalf("only %d expressions", len(good))
	}
	for _, p := range good {
		alone, next, err := bracket.Read(p, 0, 0)
		if err != nil || next != len(p) {
			t.Fatalf("Read(%q) = %d, %v", p, next, err)
		}
		for _, ahead := range []string{"", "x", "[", "[^", "[[:", "\\", "]", "[a-", "\x00"} {
			for _, behind := range []string{"", "]", "]]", "-z]", ":]", "[", "[.", "*", "^", "\n"} {
				hold(t, ahead+p+behind, len(ahead), 0, told{set: alone, next: len(ahead) + next})
			}
		}
		if t.Failed() {
			return
		}
	}
}

func TestP5_2FaultsBehindOthers(t *testing.T) {
	for _, p := range []string{"[", "[]", "[^", "[[:alpha", "[[:x:]", "[a[.b.]]", "[a-[.b.]]", "[b-a]", "[a-[:digit:]]"} {
		want := model(p, 0, 0)
		for _, ahead := range []string{"x", "[", "[^", "[[:", "\\", "]", "[a-"} {
			hold(t, ahead+p, len(ahead), 0, fails(want.err, len(ahead)+want.at))
		}
	}
}

func TestP5_2Turned(t *testing.T) {
	for _, p := range goodOnes() {
		if p[1] == '^' {
			continue
		}
		turned := "[^" + p[1:]
		for _, flags := range flagsTried() {
			set, next, err := bracket.Read(p, 0, flags)
			if err != nil {
				t.Fatalf("Read(%q, 0, %d): %v", p, flags, err)
			}
			rest := octet.Not(set)
			if flags&4 != 0 {
				rest = octet.Less(rest, octet.Of(10))
			}
			hold(t, turned, 0, flags, told{set: rest, next: next + 1})
		}
		if t.Failed() {
			return
		}
	}
}
