package parts_test

import (
	"strconv"
	"strings"
	"testing"

	"trawl/api"
	"trawl/parts"
	"trawl/tree"
)

// of is the KindBytes of the bytes that are to be in it.
func of(in func(b byte) bool) api.Node {
	t := api.Node{Kind: api.KindBytes}
	for n := range 256 {
		if in(byte(n)) {
			t.Set[n/64] |= 1 << (n % 64)
		}
	}
	return t
}

func TestP6_1Dot(t *testing.T) {
	all := of(func(byte) bool { return true })
	lines := of(func(b byte) bool { return b != '\n' })
	for flags, want := range map[int]api.Node{0: all, 2: all, 4: lines, 6: lines, 1: all, -1: lines, ^4: all} {
		if got := parts.Dot(flags); !tree.Same(got, want) {
			t.Errorf("Dot(%d) = %v", flags, got)
		}
	}
}

func TestP6_1Plain(t *testing.T) {
	for n := range 256 {
		b := byte(n)
		letter := 'a' <= b|32 && b|32 <= 'z'
		alone := of(func(c byte) bool { return c == b })
		both := of(func(c byte) bool { return c == b || letter && c == b^32 })
		for flags, want := range map[int]api.Node{0: alone, 2: both, 4: alone, 6: both, ^2: alone, -1: both} {
			if got := parts.Plain(b, flags); !tree.Same(got, want) {
				t.Errorf("Plain(%d, %d) = %v", b, flags, got)
			}
		}
	}
}

func TestP6_1Punct(t *testing.T) {
	const marks = "!\"#$%&'()*+,-./:;<=>?@[\\]^_`{|}~"
	for n := range 256 {
		b := byte(n)
		if parts.Punct(b) != (strings.IndexByte(marks, b) >= 0) {
			t.Errorf("Punct(%d) = %v", b, parts.Punct(b))
		}
	}
}

func holdCounts(t *testing.T, text string, least, most int, ok bool) {
	t.Helper()
	got, told := parts.Counts(text)
	if told != ok || got != (parts.Bounds{Min: least, Max: most}) {
		t.Errorf("Counts(%q) = %v, %v", text, got, told)
	}
}

func TestP6_1Counts(t *testing.T) {
	for least := range 256 {
		first := strconv.Itoa(least)
		holdCounts(t, first, least, least, true)
		holdCounts(t, first+",", least, parts.Endless, true)
		for most := range 256 {
			text := first + "," + strconv.Itoa(most)
			if most < least {
				holdCounts(t, text, 0, 0, false)
				continue
			}
			holdCounts(t, text, least, most, true)
		}
	}
	holdCounts(t, "000", 0, 0, true)
	holdCounts(t, "00,007", 0, 7, true)
	for _, text := range []string{
		"", ",", ",1", "x", "1x", "x1", "1,x", "1,1x", " 1", "1 ", "-1", "+1", "1,2,3", "1,,2", "1,2,", "256", "1,256", "256,256",
		"0001", "1,0001", "999", "18446744073709551617", "1\n", "\xd9\xa1", "1{", "1\\",
	} {
		holdCounts(t, text, 0, 0, false)
	}
}
