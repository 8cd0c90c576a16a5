package bre_test

import (
	"math"
	"slices"
	"strconv"
	"strings"
	"testing"

	"trawl/api"
	"trawl/bre"
	"trawl/ere"
	"trawl/tree"
)

// flagsTried are all that Parse looks at, alone and with all bits that are nothing to it.
func flagsTried() []int {
	rest := ^(api.Icase | api.Newline)
	return []int{0, 2, 4, 6, rest, rest | 2, rest | 4, -1, api.Extended, api.Nosub, math.MaxInt, math.MinInt}
}

func TestP7_1Examples(t *testing.T) {
	a, star := leaf('a'), leaf('*')
	for p, want := range map[string]told{
		"":             {tree: empty()},
		"*":            {tree: star},
		"**":           {tree: rep(star, 0, -1)},
		"^*":           {tree: seq(begin(), star)},
		`\(*a\)`:       {tree: group(1, row("*a")), groups: 1},
		"a^b":          {tree: row("a^b")},
		"a$b":          {tree: row("a$b")},
		"a$":           {tree: seq(a, end())},
		`\(^a$\)`:      {tree: group(1, seq(begin(), a, end())), groups: 1},
		"$":            {tree: end()},
		"^":            {tree: begin()},
		"^^":           {tree: seq(begin(), leaf('^'))},
		`a\{2,3\}`:     {tree: rep(a, 2, 3)},
		"a+?|(){}":     {tree: row("a+?|(){}")},
		`\|`:           {tree: leaf('|')},
		`a\.*`:         {tree: seq(a, rep(leaf('.'), 0, -1))},
		"$*":           {tree: rep(leaf('$'), 0, -1)},
		`\(ab*\)\{2\}`: {tree: rep(group(1, seq(a, rep(leaf('b'), 0, -1))), 2, 2), groups: 1},
	} {
		hold(t, p, 0, want)
	}
}

func TestP7_1FaultsOfTheExamples(t *testing.T) {
	for p, want := range map[string]told{
		"a**":               fails(api.ErrRepeat, 2),
		`\{1\}`:             fails(api.ErrRepeat, 0),
		`a\{1`:              fails(api.ErrBrace, 1),
		`a\{\}`:             fails(api.ErrCount, 1),
		`a\{2,1\}`:          fails(api.ErrCount, 1),
		`\}`:                fails(api.ErrBrace, 0),
		`a\}`:               fails(api.ErrBrace, 1),
		`\)`:                fails(api.ErrParen, 0),
		`\(a`:               fails(api.ErrParen, 0),
		`\1`:                fails(api.ErrEscape, 0),
		`\n`:                fails(api.ErrEscape, 0),
		`a\`:                fails(api.ErrEscape, 1),
		`\(a\{255\}\)\{8\}`: fails(api.ErrTooBig, 12),
	} {
		for _, flags := range flagsTried() {
			hold(t, p, flags, want)
		}
	}
}

func TestP7_1AtTheFront(t *testing.T) {
	a, star, hat := leaf('a'), leaf('*'), leaf('^')
	for p, want := range map[string]told{
		"*a":         {tree: row("*a")},
		"a*":         {tree: rep(a, 0, -1)},
		`*\{2\}`:     {tree: rep(star, 2, 2)},
		`^*\{2\}`:    {tree: seq(begin(), rep(star, 2, 2))},
		"^**":        {tree: seq(begin(), rep(star, 0, -1))},
		"^*a":        {tree: seq(begin(), star, a)},
		"^a*":        {tree: seq(begin(), rep(a, 0, -1))},
		"^^*":        {tree: seq(begin(), rep(hat, 0, -1))},
		"^^^":        {tree: seq(begin(), hat, hat)},
		"*^":         {tree: row("*^")},
		"*^*":        {tree: seq(star, rep(hat, 0, -1))},
		"a^*":        {tree: seq(a, rep(hat, 0, -1))},
		`\^*`:        {tree: rep(hat, 0, -1)},
		`\^^`:        {tree: row("^^")},
		`\**`:        {tree: rep(star, 0, -1)},
		`\(*\)`:      {tree: group(1, star), groups: 1},
		`\(**\)`:     {tree: group(1, rep(star, 0, -1)), groups: 1},
		`\(^*\)`:     {tree: group(1, seq(begin(), star)), groups: 1},
		`\(^**\)`:    {tree: group(1, seq(begin(), rep(star, 0, -1))), groups: 1},
		`\(^\)`:      {tree: group(1, begin()), groups: 1},
		`\(^^\)`:     {tree: group(1, seq(begin(), hat)), groups: 1},
		`\(\(*\)*\)`: {tree: group(1, rep(group(2, star), 0, -1)), groups: 2},
		`^\(*\)`:     {tree: seq(begin(), group(1, star)), groups: 1},
		`^\(^a\)`:    {tree: seq(begin(), group(1, seq(begin(), a))), groups: 1},
		`a\(^a\)`:    {tree: seq(a, group(1, seq(begin(), a))), groups: 1},
		`\(a\)^`:     {tree: seq(group(1, a), hat), groups: 1},
		`\(a\)*`:     {tree: rep(group(1, a), 0, -1), groups: 1},
		`\(\)^*`:     {tree: seq(group(1, empty()), rep(hat, 0, -1)), groups: 1},
		`\(^\)*`:     {tree: rep(group(1, begin()), 0, -1), groups: 1},
		`a*^`:        {tree: seq(rep(a, 0, -1), hat)},
		"[*]*":       {tree: rep(star, 0, -1)},
		// A '(' behind a '\' that is taken as itself opens nothing.
		`\\(*`:  {tree: seq(leaf('\\'), rep(leaf('('), 0, -1))},
		`\\(^a`: {tree: row(`\(^a`)},
		"(^a)":  {tree: row("(^a)")},
		"(*a)":  {tree: seq(rep(leaf('('), 0, -1), row("a"), leaf(')'))},
		"|*":    {tree: rep(leaf('|'), 0, -1)},
		"\n^a":  {tree: row("\n^a")},
		"\n*":   {tree: rep(leaf('\n'), 0, -1)},
	} {
		hold(t, p, 0, want)
	}
}

func TestP7_1AtTheEnd(t *testing.T) {
	a, dollar := leaf('a'), leaf('$')
	for p, want := range map[string]told{
		"^$":          {tree: seq(begin(), end())},
		"$$":          {tree: seq(dollar, end())},
		"$$$":         {tree: seq(dollar, dollar, end())},
		"$^":          {tree: row("$^")},
		"$a":          {tree: row("$a")},
		"*$":          {tree: seq(leaf('*'), end())},
		"a*$":         {tree: seq(rep(a, 0, -1), end())},
		"a$*":         {tree: seq(a, rep(dollar, 0, -1))},
		"$*$":         {tree: seq(rep(dollar, 0, -1), end())},
		`$\{2\}`:      {tree: rep(dollar, 2, 2)},
		`a\$`:         {tree: row("a$")},
		`\$$`:         {tree: seq(dollar, end())},
		`\$*`:         {tree: rep(dollar, 0, -1)},
		`$\(a\)`:      {tree: seq(dollar, group(1, a)), groups: 1},
		`$\.`:         {tree: row("$.")},
		`$\\`:         {tree: row(`$\`)},
		`$\\)`:        {tree: row(`$\)`)},
		"$)":          {tree: row("$)")},
		"$\n":         {tree: row("$\n")},
		"a$|b":        {tree: row("a$|b")},
		`\($\)`:       {tree: group(1, end()), groups: 1},
		`\($\)*`:      {tree: rep(group(1, end()), 0, -1), groups: 1},
		`\(^$\)$`:     {tree: seq(group(1, seq(begin(), end())), end()), groups: 1},
		`\(a$\)b`:     {tree: seq(group(1, seq(a, end())), leaf('b')), groups: 1},
		`\(a$b\)`:     {tree: group(1, row("a$b")), groups: 1},
		`\(\(a$\)$\)`: {tree: group(1, seq(group(2, seq(a, end())), end())), groups: 2},
		`\($$\)`:      {tree: group(1, seq(dollar, end())), groups: 1},
		`\(\$\)`:      {tree: group(1, dollar), groups: 1},
		"[$]$":        {tree: seq(dollar, end())},
		"a[$]":        {tree: row("a$")},
	} {
		hold(t, p, 0, want)
	}
}

func TestP7_1Pieces(t *testing.T) {
	a, b, c := leaf('a'), leaf('b'), leaf('c')
	for p, want := range map[string]told{
		"a":                     {tree: a},
		"abc":                   {tree: seq(a, b, c)},
		"ab*":                   {tree: seq(a, rep(b, 0, -1))},
		`ab\{2\}c`:              {tree: seq(a, rep(b, 2, 2), c)},
		`a\{0,\}b\{0,1\}`:       {tree: seq(rep(a, 0, -1), rep(b, 0, 1))},
		`a\{1,\}b\{1,1\}`:       {tree: seq(rep(a, 1, -1), rep(b, 1, 1))},
		`a\{0\}`:                {tree: rep(a, 0, 0)},
		`a\{000,007\}`:          {tree: rep(a, 0, 7)},
		`a\{255\}`:              {tree: rep(a, 255, 255)},
		`a\{1\}}`:               {tree: seq(rep(a, 1, 1), leaf('}'))},
		`\(\)`:                  {tree: group(1, empty()), groups: 1},
		`\(\)*`:                 {tree: rep(group(1, empty()), 0, -1), groups: 1},
		`\(ab\)`:                {tree: group(1, seq(a, b)), groups: 1},
		`\(a*\)*`:               {tree: rep(group(1, rep(a, 0, -1)), 0, -1), groups: 1},
		`\(a\)\(b\)`:            {tree: seq(group(1, a), group(2, b)), groups: 2},
		`\(\(a\)b\)\(c\)`:       {tree: seq(group(1, seq(group(2, a), b)), group(3, c)), groups: 3},
		`\(a\(b\(c\)\)\)`:       {tree: group(1, seq(a, group(2, seq(b, group(3, c))))), groups: 3},
		`\(a\|b\)`:              {tree: group(1, row("a|b")), groups: 1},
		`\(a\)\{2,\}\(b\)\{3\}`: {tree: seq(rep(group(1, a), 2, -1), rep(group(2, b), 3, 3)), groups: 2},
		"[ab]*":                 {tree: rep(leaf('a', 'b'), 0, -1)},
		"[ab]c":                 {tree: seq(leaf('a', 'b'), c)},
		`[\(]a`:                 {tree: seq(leaf('\\', '('), a)},
		`\([\)]\)`:              {tree: group(1, leaf('\\', ')')), groups: 1},
		`[\{]\{2\}`:             {tree: rep(leaf('\\', '{'), 2, 2)},
		"(a)":                   {tree: row("(a)")},
		"a{1}":                  {tree: row("a{1}")},
		"a{":                    {tree: row("a{")},
		"a+*":                   {tree: seq(a, rep(leaf('+'), 0, -1))},
		"a?*":                   {tree: seq(a, rep(leaf('?'), 0, -1))},
		"{*":                    {tree: rep(leaf('{'), 0, -1)},
		`}\{1\}`:                {tree: rep(leaf('}'), 1, 1)},
		`)*`:                    {tree: rep(leaf(')'), 0, -1)},
		`a\+`:                   {tree: row("a+")},
		`a\?`:                   {tree: row("a?")},
		`\\`:                    {tree: leaf('\\')},
		`\\*`:                   {tree: rep(leaf('\\'), 0, -1)},
		`\\{1}`:                 {tree: row(`\{1}`)},
		`\\\(a\)`:               {tree: seq(leaf('\\'), group(1, a)), groups: 1},
		`\]`:                    {tree: leaf(']')},
		`\[a]`:                  {tree: row("[a]")},
		"]]":                    {tree: row("]]")},
		".*":                    {tree: rep(allBut(), 0, -1)},
		`.\{2\}`:                {tree: rep(allBut(), 2, 2)},
		"a\x00\xff":             {tree: seq(a, leaf(0), leaf(255))},
		"é":                     {tree: seq(leaf(0xc3), leaf(0xa9))},
		`é*`:                    {tree: seq(leaf(0xc3), rep(leaf(0xa9), 0, -1))},
	} {
		hold(t, p, 0, want)
	}
}

func TestP7_1EachByte(t *testing.T) {
	for n := range 256 {
		b := byte(n)
		alone := string([]byte{b})
		for _, flags := range flagsTried() {
			hold(t, alone, flags, model(alone, flags))
			if strings.IndexByte(`.[*^$\`, b) < 0 {
				hold(t, alone, flags, told{tree: either(b, flags)})
			}
			if strings.IndexByte(`.[*\`, b) < 0 {
				hold(t, "x"+alone+"*", flags, told{tree: seq(either('x', flags), rep(either(b, flags), 0, -1))})
				hold(t, "x"+alone+`\{3,\}`, flags, told{tree: seq(either('x', flags), rep(either(b, flags), 3, -1))})
			}
		}
	}
}

func TestP7_1EachByteBehindABackslash(t *testing.T) {
	for n := range 256 {
		b := byte(n)
		p := string([]byte{'x', '\\', b})
		for _, flags := range flagsTried() {
			if strings.IndexByte("(){}", b) >= 0 {
				hold(t, p, flags, model(p, flags))
				continue
			}
			if strings.IndexByte(escapable, b) < 0 {
				hold(t, p, flags, fails(api.ErrEscape, 1))
				hold(t, `\(`+p+"**", flags, fails(api.ErrEscape, 3))
				continue
			}
			hold(t, p, flags, told{tree: seq(either('x', flags), leaf(b))})
			hold(t, p+"*", flags, told{tree: seq(either('x', flags), rep(leaf(b), 0, -1))})
			hold(t, p[1:], flags, told{tree: leaf(b)})
		}
	}
	if len(escapable) != 28 {
		t.Errorf("%d bytes of punct but ( ) { }", len(escapable))
	}
	for _, p := range []string{`\`, `a\`, `\(\`, `a\\\`, `[\]\`, `^\`, `*\`, `$\`} {
		hold(t, p, 0, fails(api.ErrEscape, len(p)-1))
	}
}

func TestP7_1Flags(t *testing.T) {
	for _, flags := range flagsTried() {
		hold(t, ".", flags, told{tree: dot(flags)})
		hold(t, `\.`, flags, told{tree: leaf('.')})
		// Newline leaves the newline itself a byte like any other.
		hold(t, "\n", flags, told{tree: leaf(10)})
		hold(t, `\(q|Z1\)`, flags, told{tree: group(1, seq(either('q', flags), leaf('|'), either('Z', flags), leaf('1'))), groups: 1})
		hold(t, "^*^$", flags, told{tree: seq(begin(), leaf('*'), leaf('^'), end())})
		hold(t, "[\n]", flags, told{tree: leaf(10)})
		class, other := leaf('k'), allBut('k')
		if flags&2 != 0 {
			class, other = leaf('k', 'K'), allBut('k', 'K')
		}
		if flags&4 != 0 {
			other.Set[0] &^= 1 << 10
		}
		hold(t, "[k]", flags, told{tree: class})
		hold(t, "[^k]*", flags, told{tree: rep(other, 0, -1)})
	}
}

func TestP7_1Derived(t *testing.T) {
	for _, flags := range flagsTried() {
		for _, d := range derive(1500, flags) {
			hold(t, d.text, flags, told{tree: d.tree, groups: d.groups})
		}
	}
}

func TestP7_1EachCount(t *testing.T) {
	a := leaf('a')
	braced := func(text string) string { return `a\{` + text + `\}` }
	for least := range 300 {
		first := strconv.Itoa(least)
		if least > 255 {
			hold(t, braced(first), 0, fails(api.ErrCount, 1))
			hold(t, braced(first+","), 0, fails(api.ErrCount, 1))
			hold(t, braced("1,"+first), 0, fails(api.ErrCount, 1))
			continue
		}
		hold(t, braced(first), 0, told{tree: rep(a, least, least)})
		hold(t, braced(first+","), 0, told{tree: rep(a, least, -1)})
		padded := "00"[:3-len(first)] + first
		hold(t, braced(padded), 0, told{tree: rep(a, least, least)})
		hold(t, braced("0"+padded), 0, fails(api.ErrCount, 1))
		for most := 0; most < 300; most += 1 + most%3 {
			want := told{tree: rep(a, least, most)}
			if most < least || most > 255 {
				want = fails(api.ErrCount, 1)
			}
			hold(t, braced(first+","+strconv.Itoa(most)), 0, want)
		}
	}
}

func TestP7_1WhatIsNoCount(t *testing.T) {
	for _, text := range []string{
		"", ",", "x", "-1", "+1", " 1", "1 ", "1, 2", "1,2,", "1,2,3", ",,", ",2", "1,,", "1,,2", "0x1", "1e1", "1.0", "1_0", "a,b", "1,b", "b,1",
		"256", "999", "1,999", "999,", "999,999", "0000", "0,0000", "1,256", "1000", "1,1000", "3,2", "255,254", "99999999999999999999", "1\x00", "\n1",
		"\\", "1\\", "{1", "[1", "[1]", "(1", "1)", `\(1\)`, "1|2", "\xd9\xa1", "1*", "1;2", "1}", "1}{2", `\{1`,
	} {
		hold(t, `a\{`+text+`\}`, 0, fails(api.ErrCount, 1))
		hold(t, `\(a\)\{`+text+`\}\}`, 0, fails(api.ErrCount, 5))
		hold(t, `bca\{`+text+`\}\{1\}`, -1, fails(api.ErrCount, 3))
		hold(t, `a\{`+text, 0, fails(api.ErrBrace, 1))
	}
	for _, p := range made("a", 6, []string{`\{`, `\}`, "1", ",", "2"}) {
		hold(t, p, 0, model(p, 0))
	}
}

func TestP7_1WhichFault(t *testing.T) {
	for p, want := range map[string]told{
		// Where a piece begins every repeat is the same fault, whatever stands behind it.
		`\{`:              fails(api.ErrRepeat, 0),
		`^\{1\}`:          fails(api.ErrRepeat, 1),
		`\(\{1\}\)`:       fails(api.ErrRepeat, 2),
		`\(^\{1\}\)`:      fails(api.ErrRepeat, 3),
		`a*\{`:            fails(api.ErrRepeat, 2),
		`a*\{1\}`:         fails(api.ErrRepeat, 2),
		`a\{1\}*`:         fails(api.ErrRepeat, 6),
		`a\{1\}\{2\}`:     fails(api.ErrRepeat, 6),
		"***":             fails(api.ErrRepeat, 2),
		"^***":            fails(api.ErrRepeat, 3),
		`**\{1\}`:         fails(api.ErrRepeat, 2),
		`\(***\)`:         fails(api.ErrRepeat, 4),
		`\(^***\)`:        fails(api.ErrRepeat, 5),
		`\(a\)**`:         fails(api.ErrRepeat, 6),
		"[a]**":           fails(api.ErrRepeat, 4),
		`\.**`:            fails(api.ErrRepeat, 3),
		"^^**":            fails(api.ErrRepeat, 3),
		"a^**":            fails(api.ErrRepeat, 3),
		"$**":             fails(api.ErrRepeat, 2),
		`\(\)*\(**\{`:     fails(api.ErrRepeat, 9),
		`a**\)`:           fails(api.ErrRepeat, 2),
		`a**\`:            fails(api.ErrRepeat, 2),
		`\(a**`:           fails(api.ErrRepeat, 4),
		`a\{x`:            fails(api.ErrBrace, 1),
		`a\{1}`:           fails(api.ErrBrace, 1),
		`a\{1}\`:          fails(api.ErrBrace, 1),
		`a\{1\`:           fails(api.ErrBrace, 1),
		`a\{1\ }`:         fails(api.ErrBrace, 1),
		`a\{1\}b\{2`:      fails(api.ErrBrace, 7),
		`\(a\{`:           fails(api.ErrBrace, 3),
		`\(a\{1\)`:        fails(api.ErrBrace, 3),
		`*\{`:             fails(api.ErrBrace, 1),
		`^*\{`:            fails(api.ErrBrace, 2),
		`$\{`:             fails(api.ErrBrace, 1),
		`a\{[b-a`:         fails(api.ErrBrace, 1),
		`a\{1\)\(\}`:      fails(api.ErrCount, 1),
		`a\{1[\}]`:        fails(api.ErrCount, 1),
		`a\{1\\}`:         fails(api.ErrCount, 1),
		`a\{1\\\}`:        fails(api.ErrCount, 1),
		"a\\{1,\n2\\}":    fails(api.ErrCount, 1),
		`a\{b\{1\}`:       fails(api.ErrCount, 1),
		`a\{2,1\}\{`:      fails(api.ErrCount, 1),
		`*\{x\}`:          fails(api.ErrCount, 1),
		`a\{\a\}`:         fails(api.ErrCount, 1),
		`^\}`:             fails(api.ErrBrace, 1),
		`\(\}\)`:          fails(api.ErrBrace, 2),
		`a*\}`:            fails(api.ErrBrace, 2),
		`a\{1\}\}`:        fails(api.ErrBrace, 6),
		`\(a\)\}`:         fails(api.ErrBrace, 5),
		`\}*`:             fails(api.ErrBrace, 0),
		`$\}`:             fails(api.ErrBrace, 1),
		`\}\)`:            fails(api.ErrBrace, 0),
		`a\)`:             fails(api.ErrParen, 1),
		`^\)`:             fails(api.ErrParen, 1),
		`$\)`:             fails(api.ErrParen, 1),
		`*\)`:             fails(api.ErrParen, 1),
		`\(\)\)`:          fails(api.ErrParen, 4),
		`\)\(`:            fails(api.ErrParen, 0),
		`\(a\)\)*`:        fails(api.ErrParen, 5),
		`\)*`:             fails(api.ErrParen, 0),
		`\)\`:             fails(api.ErrParen, 0),
		`\\)\)`:           fails(api.ErrParen, 3),
		`\(`:              fails(api.ErrParen, 0),
		`a\(`:             fails(api.ErrParen, 1),
		`\(^`:             fails(api.ErrParen, 0),
		`\($`:             fails(api.ErrParen, 0),
		`\(*`:             fails(api.ErrParen, 0),
		`\(\(\)`:          fails(api.ErrParen, 0),
		`\(\)\(`:          fails(api.ErrParen, 4),
		`\(\(\)\(`:        fails(api.ErrParen, 6),
		`\(a\(b`:          fails(api.ErrParen, 3),
		`\(a\)\(b`:        fails(api.ErrParen, 5),
		`\(\(a\)\(b`:      fails(api.ErrParen, 7),
		`\([\)]`:          fails(api.ErrParen, 0),
		`\(a)`:            fails(api.ErrParen, 0),
		`\(\\)`:           fails(api.ErrParen, 0),
		`\(a\`:            fails(api.ErrEscape, 3),
		`\(a\q\)`:         fails(api.ErrEscape, 3),
		`\(\1\)`:          fails(api.ErrEscape, 2),
		`\(a\)\1`:         fails(api.ErrEscape, 5),
		`\0`:              fails(api.ErrEscape, 0),
		`\ `:              fails(api.ErrEscape, 0),
		"\\\n":            fails(api.ErrEscape, 0),
		"\\\x7f":          fails(api.ErrEscape, 0),
		"\\\xc3\xa9":      fails(api.ErrEscape, 0),
		`\*\*\`:           fails(api.ErrEscape, 4),
		`\a*\)`:           fails(api.ErrEscape, 0),
		`\a**`:            fails(api.ErrEscape, 0),
		`$\`:              fails(api.ErrEscape, 1),
		`$\a`:             fails(api.ErrEscape, 1),
		"[":               fails(api.ErrBracket, 0),
		"a[":              fails(api.ErrBracket, 1),
		"^[":              fails(api.ErrBracket, 1),
		`\([\)`:           fails(api.ErrBracket, 2),
		"a[]":             fails(api.ErrBracket, 1),
		"a[^]":            fails(api.ErrBracket, 1),
		"a[[:x:]]":        fails(api.ErrClass, 2),
		"a[b[.c.]]":       fails(api.ErrCollate, 3),
		"a[[=c=]]":        fails(api.ErrCollate, 2),
		`\(a[z-y]`:        fails(api.ErrRange, 4),
		"[b-a":            fails(api.ErrRange, 1),
		"[[:alpha:]":      fails(api.ErrBracket, 0),
		`\(a\)[b-a]\)`:    fails(api.ErrRange, 6),
		`[[:x:]]**`:       fails(api.ErrClass, 1),
		`[a]\{1\}[[=a=]]`: fails(api.ErrCollate, 9),
	} {
		for _, flags := range flagsTried() {
			hold(t, p, flags, want)
		}
	}
}

// within lays a pattern in n groups.
func within(n int, p string) string {
	return strings.Repeat(`\(`, n) + p + strings.Repeat(`\)`, n)
}

func TestP7_1Nesting(t *testing.T) {
	deepest := leaf('a')
	for num := 32; num > 0; num-- {
		deepest = group(num, deepest)
	}
	hold(t, within(32, "a"), 0, told{tree: deepest, groups: 32})
	for _, flags := range flagsTried() {
		hold(t, within(33, "a"), flags, fails(api.ErrNest, 64))
	}
	hold(t, within(32, `[\(]\\(\.(`), 0, model(within(32, `[\(]\\(\.(`), 0))
	hold(t, within(32, `ab*\(b\)`), 0, fails(api.ErrNest, 67))
	hold(t, strings.Repeat(`\(`, 32), 0, fails(api.ErrParen, 62))
	hold(t, strings.Repeat(`\(`, 33), 0, fails(api.ErrNest, 64))
	hold(t, strings.Repeat(`\(`, 34), 0, fails(api.ErrNest, 64))
	hold(t, within(32, `**\{1\}\(`), 0, fails(api.ErrRepeat, 66))
	hold(t, within(32, `^\(\}`), 0, fails(api.ErrNest, 65))
	// What is closed stands in nothing any more.
	again := within(32, "a") + within(32, "b") + within(32, "c")
	hold(t, again, 0, model(again, 0))
	if _, groups, err := bre.Parse(again, 0); groups != 96 || err != nil {
		t.Errorf("three times 32 groups: %d, %v", groups, err)
	}
	hold(t, within(31, `\(a\)\(b\)`), 0, model(within(31, `\(a\)\(b\)`), 0))
	hold(t, within(32, "a")+within(33, "b"), 0, fails(api.ErrNest, 193))
	list := strings.Repeat(`\(\)`, 256)
	hold(t, list, 0, model(list, 0))
	if _, groups, err := bre.Parse(list, 0); groups != 256 || err != nil {
		t.Errorf("256 groups: %d, %v", groups, err)
	}
}

// crowded is as deep as a pattern may be.
func crowded() string {
	return "b" + strings.Repeat(`\(b`, 32) + `c\{2,3\}` + strings.Repeat(`\)\{1\}`, 32)
}

func TestP7_1Long(t *testing.T) {
	for _, p := range []string{"a", `\(`, `\)`, "*", "[", "\\", "^", "$", "\n"} {
		long := strings.Repeat(p, 1025)[:1025]
		for _, flags := range flagsTried() {
			hold(t, long, flags, fails(api.ErrLong, 1024))
		}
		hold(t, long[:1024], 0, model(long[:1024], 0))
	}
	full := strings.Repeat("a", 1024)
	hold(t, full, 0, told{tree: row(full)})
	hold(t, strings.Repeat("a", 1<<20), 0, fails(api.ErrLong, 1024))
	hold(t, `\}`+full, 0, fails(api.ErrLong, 1024))
	hold(t, full+"$", 0, fails(api.ErrLong, 1024))
	hold(t, full[:1023]+"$", 0, told{tree: node(api.KindSeq, append(row(full[:1023]).Subs, end())...)})
	hold(t, full[:1022]+`\(`, 0, fails(api.ErrParen, 1022))
	hold(t, full[:1023]+"\\", 0, fails(api.ErrEscape, 1023))
	hold(t, full[:1018]+"[b-a]*", 0, fails(api.ErrRange, 1019))
	hold(t, crowded(), 0, model(crowded(), 0))
}

// sized is a KindSeq of this size, from 3 on, as a pattern.
func sized(size int) string {
	text := "a"
	for rest := size - 2; rest > 0; {
		switch {
		case rest > 3:
			n := min(rest-1, 255)
			text += `a\{` + strconv.Itoa(n) + `\}`
			rest -= n + 1
		case rest == 3:
			text += `a\{2\}`
			rest = 0
		default:
			text += "a"
			rest--
		}
	}
	return text
}

func TestP7_1TooBigAsAWhole(t *testing.T) {
	for _, size := range []int{3, 4, 5, 6, 300, 1999, 2000} {
		p := sized(size)
		hold(t, p, 0, model(p, 0))
		got, _, err := bre.Parse(p, 0)
		if n := tree.Size(got); err != nil || n != size {
			t.Errorf("Parse(%q) has size %d, %v, want %d", p, n, err, size)
		}
	}
	for _, size := range []int{2001, 2002, 2300, 5000} {
		p := sized(size)
		for _, flags := range flagsTried() {
			hold(t, p, flags, fails(api.ErrTooBig, len(p)))
		}
		// Every other fault counts more.
		hold(t, `\(`+p, 0, fails(api.ErrParen, 0))
		hold(t, p+`\)`, 0, fails(api.ErrParen, len(p)))
		hold(t, p+"a**", 0, fails(api.ErrRepeat, len(p)+2))
		hold(t, p+`\}`, 0, fails(api.ErrBrace, len(p)))
		hold(t, p+"\\", 0, fails(api.ErrEscape, len(p)))
		hold(t, `\(`+p+`\)`, 0, fails(api.ErrTooBig, len(p)+4))
		hold(t, `\(`+p+`\)[`, 0, fails(api.ErrBracket, len(p)+4))
		hold(t, p+"$", 0, fails(api.ErrTooBig, len(p)+1))
	}
	hold(t, `\(`+sized(1999)+`\)`, 0, model(`\(`+sized(1999)+`\)`, 0))
	hold(t, `\(`+sized(2000)+`\)`, 0, fails(api.ErrTooBig, len(sized(2000))+4))
	hold(t, "^"+sized(1999), 0, model("^"+sized(1999), 0))
	hold(t, "^"+sized(2000), 0, fails(api.ErrTooBig, len(sized(2000))+1))
}

func TestP7_1TooBigAsARepeat(t *testing.T) {
	for _, c := range []struct {
		repeat string
		most   int // the greatest size of the atom
	}{
		{"*", 1999}, {`\{0,\}`, 1999}, {`\{0,1\}`, 1999}, {`\{1,\}`, 999}, {`\{1\}`, 2000}, {`\{1,1\}`, 2000}, {`\{2\}`, 999},
		{`\{8\}`, 249}, {`\{2,\}`, 666}, {`\{0,2\}`, 998}, {`\{1,2\}`, 999}, {`\{2,3\}`, 666}, {`\{100\}`, 19}, {`\{249,250\}`, 7}, {`\{255\}`, 7}, {`\{0,255\}`, 6},
	} {
		good := `\(` + sized(c.most-1) + `\)`
		bad := `\(` + sized(c.most) + `\)`
		hold(t, good+c.repeat, 0, model(good+c.repeat, 0))
		if got, groups, err := bre.Parse(good+c.repeat, 0); err != nil || groups != 1 || got.Kind != api.KindRep {
			t.Errorf("an atom of size %d and %s: %v", c.most, c.repeat, err)
		}
		for _, flags := range flagsTried() {
			hold(t, bad+c.repeat, flags, fails(api.ErrTooBig, len(bad)))
			// It is met ahead of what stands behind it, and of a '\(' that isn't closed.
			hold(t, `a\(`+bad+c.repeat+`*\`, flags, fails(api.ErrTooBig, len(bad)+3))
		}
	}
	// What stands right of a repeat counts for the whole alone.
	p := `\(` + sized(1998) + `\)*a`
	hold(t, p, 0, fails(api.ErrTooBig, len(p)))
	// A repeat of 0 to 0 leaves nothing of its atom, however great that is.
	for _, repeat := range []string{`\{0\}`, `\{0,0\}`, `\{000\}`, `\{00,000\}`} {
		p := `\(` + sized(5000) + `\)` + repeat
		hold(t, p, 0, model(p, 0))
		if got, groups, err := bre.Parse("x"+p, 0); err != nil || groups != 1 || tree.Size(got) != 3 {
			t.Errorf("x%s: %d, %v", p, groups, err)
		}
	}
	// A repeat within it counts by itself, as it is read from the left.
	hold(t, `\(\(a\{255\}\)\{8\}\)\{0\}`, 0, fails(api.ErrTooBig, 14))
	// Only a whole repeat is too big: with a fault in its counts there is none.
	hold(t, `\(a\{255\}\)\{8,1\}`, 0, fails(api.ErrCount, 12))
	hold(t, `\(a\{255\}\)\{8`, 0, fails(api.ErrBrace, 12))
	hold(t, `\(\(a\{255\}\)\{7\}\)\{255\}`, 0, fails(api.ErrTooBig, 21))
}

func TestP7_1AllShortOnes(t *testing.T) {
	all := []string{"a", "B", ".", "[", "]", "(", ")", "*", "{", "}", "|", "^", "$", "\\", "1", ",", "\n"}
	for _, p := range made("", 4, all) {
		flags := len(p) % 2 * 6
		hold(t, p, flags, model(p, flags))
		if t.Failed() {
			return
		}
	}
	for _, p := range made("", 6, []string{`\(`, `\)`, "^", "$", "a", "*"}) {
		hold(t, p, 0, model(p, 0))
		if t.Failed() {
			return
		}
	}
	for _, p := range made("", 6, []string{`\(`, `\)`, "*", `\{2\}`, "\\", "[a"}) {
		hold(t, p, 6, model(p, 6))
		if t.Failed() {
			return
		}
	}
}

func TestP7_1Mixed(t *testing.T) {
	for _, p := range mixed(30000) {
		for _, flags := range []int{0, 2, 4, -1} {
			hold(t, p, flags, model(p, flags))
		}
		if t.Failed() {
			return
		}
	}
}

// lists are the places in memory of all nodes of a tree's lists, and of the spare room behind them.
func lists(t api.Node) []*api.Node {
	var found []*api.Node
	room := t.Subs[:cap(t.Subs)]
	for i := range room {
		found = append(found, &room[i])
	}
	for _, sub := range t.Subs {
		found = append(found, lists(sub)...)
	}
	return found
}

func TestP7_1NewMemory(t *testing.T) {
	ones := append(derive(500, 0), derived{text: crowded()})
	for _, d := range ones {
		first, _, _ := bre.Parse(d.text, 0)
		second, groups, _ := bre.Parse(d.text, 0)
		seen := map[*api.Node]int{}
		for _, place := range slices.Concat(lists(first), lists(second)) {
			seen[place]++
			if seen[place] > 1 {
				t.Fatalf("Parse(%q): two lists share memory", d.text)
			}
		}
		for _, place := range lists(first) {
			*place = api.Node{Kind: 99}
		}
		hold(t, d.text, 0, told{tree: second, groups: groups})
	}
}

// tops are the nodes of a tree, each ahead of those below it.
func tops(t api.Node) []api.Node {
	list := []api.Node{t}
	for _, sub := range t.Subs {
		list = append(list, tops(sub)...)
	}
	return list
}

// good are patterns that are read, of the mixed and the derived ones.
func good(t *testing.T) []string {
	var list []string
	for _, p := range mixed(30000) {
		if _, _, err := bre.Parse(p, 0); err == nil {
			list = append(list, p)
		}
	}
	if len(list) < 2000 {
		t.Fatalf("only %d patterns", len(list))
	}
	for _, d := range derive(1000, 0) {
		list = append(list, d.text)
	}
	return append(list, crowded(), sized(2000), strings.Repeat(`\(\)`, 256), within(32, ""))
}

func TestP7_2RightTrees(t *testing.T) {
	for _, p := range good(t) {
		got, groups, err := bre.Parse(p, -1)
		if err != nil || tree.Check(got) != nil {
			t.Fatalf("Parse(%q): %v, Check %v", p, err, tree.Check(got))
		}
		num := 0
		for _, n := range tops(got) {
			if n.Kind == api.KindAlt {
				t.Errorf("Parse(%q): a KindAlt", p)
			}
			if n.Kind == api.KindRep && (n.Bare || n.Subs[0].Kind == api.KindRep) {
				t.Errorf("Parse(%q): a repeat is bare or stands in a repeat", p)
			}
			if n.Kind != api.KindGroup {
				continue
			}
			num++
			if n.Num != num {
				t.Errorf("Parse(%q): group %d is met as number %d", p, n.Num, num)
			}
		}
		if num != groups {
			t.Errorf("Parse(%q): %d groups, told %d", p, num, groups)
		}
	}
}

// later is the tree with every group's number one more.
func later(t api.Node) api.Node {
	if t.Kind == api.KindGroup {
		t.Num++
	}
	t.Subs = slices.Clone(t.Subs)
	for i := range t.Subs {
		t.Subs[i] = later(t.Subs[i])
	}
	return t
}

// nested is how many groups of a tree stand in one another at most.
func nested(t api.Node) int {
	most := 0
	for _, sub := range t.Subs {
		most = max(most, nested(sub))
	}
	if t.Kind == api.KindGroup {
		most++
	}
	return most
}

func TestP7_2InAGroup(t *testing.T) {
	tried := 0
	for _, p := range good(t) {
		got, groups, _ := bre.Parse(p, 0)
		// As far as the limits allow.
		if len(p)+4 > 1024 || tree.Size(got) >= 2000 || nested(got) == 32 {
			continue
		}
		tried++
		hold(t, `\(`+p+`\)`, 0, told{tree: group(1, later(got)), groups: groups + 1})
	}
	if tried < 2000 {
		t.Errorf("only %d patterns", tried)
	}
}

func TestP7_2LettersAndDigits(t *testing.T) {
	const plain = "abcdefghijklmnopqrstuvwxyzABCDEFGHIJKLMNOPQRSTUVWXYZ0123456789"
	m := &maker{state: 3}
	list := []string{"", plain, strings.Repeat("z", 1024)}
	for range 300 {
		p := ""
		for range m.below(20) {
			p += string([]byte{plain[m.below(len(plain))]})
		}
		list = append(list, p)
	}
	for i := range len(plain) {
		list = append(list, plain[i:i+1])
	}
	for _, p := range list {
		for _, flags := range flagsTried() {
			want, groups, err := ere.Parse(p, flags)
			if err != nil {
				t.Fatal(err)
			}
			hold(t, p, flags, told{tree: want, groups: groups})
		}
	}
}
