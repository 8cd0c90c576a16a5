package image_test

import (
	"bytes"
	"errors"
	"math"
	"slices"
	"strconv"
	"strings"
	"testing"

	"trawl/api"
	"trawl/image"
	"trawl/tree"
)

// isJust holds an error against the one it has to be: that one and no other, without a place or a number.
func isJust(t *testing.T, name string, got, want error) {
	t.Helper()
	for _, err := range []error{api.ErrImage, api.ErrTree, api.ErrDeep, api.ErrTooBig, api.ErrArgument} {
		if errors.Is(got, err) != (err == want) {
			t.Errorf("%s: %v, want %v", name, got, want)
		}
	}
	var fault *api.Fault
	var listed *api.Listed
	if errors.As(got, &fault) || errors.As(got, &listed) {
		t.Errorf("%s: the error tells a place or a number", name)
	}
	if want == nil && got != nil {
		t.Errorf("%s: %v, want nil", name, got)
	}
}

// short is a text's beginning, for what the tests print.
func short(s string) string { return s[:min(len(s), 60)] }

// holdRight holds both calls against a right tree and its image.
func holdRight(t *testing.T, x api.Node, want string) {
	t.Helper()
	got, err := image.Encode(x)
	isJust(t, "Encode", err, nil)
	if string(got) != want {
		t.Errorf("Encode = %q, want %q", short(string(got)), short(want))
	}
	back, err := image.Decode([]byte(want))
	isJust(t, "Decode", err, nil)
	if !tree.Same(back, x) {
		t.Errorf("Decode(%q) is another tree", short(want))
	}
}

// holdRefused holds that Encode fails of the tree with this error.
func holdRefused(t *testing.T, name string, x api.Node, want error) {
	t.Helper()
	got, err := image.Encode(x)
	isJust(t, name, err, want)
	if len(got) > 0 {
		t.Errorf("%s: Encode answers bytes beside an error", name)
	}
}

// holdNoImage holds that Decode fails of these bytes.
func holdNoImage(t *testing.T, name, s string) {
	t.Helper()
	got, err := image.Decode([]byte(s))
	isJust(t, name, err, api.ErrImage)
	if !tree.Same(got, api.Node{}) {
		t.Errorf("%s: Decode(%q) answers a tree beside an error", name, short(s))
	}
}

// holdAnyBytes holds that what Decode takes is the image of a right tree, its answer; it tells whether it takes them.
func holdAnyBytes(t *testing.T, s string) bool {
	t.Helper()
	x, err := image.Decode([]byte(s))
	if err != nil {
		if !errors.Is(err, api.ErrImage) || !tree.Same(x, api.Node{}) {
			t.Errorf("Decode(%q) fails with %v, or answers a tree beside it", short(s), err)
		}
		return false
	}
	if tree.Check(x) != nil || imageOf(x) != s {
		t.Errorf("Decode takes %q, which isn't the image of its answer", short(s))
	}
	return true
}

func TestP9_1Examples(t *testing.T) {
	holdRight(t, empty(), "TRWL\x01\x01")
	holdRight(t, tree.Rep(begin(), 2, -1), "TRWL\x01\x08\x02\x00\x00\x03")
	holdRight(t, bare(end(), 1), "TRWL\x01\x08\x00\x02\x01\x04")
	holdRight(t, tree.Group(300, empty()), "TRWL\x01\x07\xac\x02\x01")
	holdRefused(t, "the zero Node", api.Node{}, api.ErrTree)
	for _, s := range []string{"", "TRWL\x01", "TRWL\x01\x01\x00", "TRWL\x01\x07\x80\x00\x01", "TRWL\x01\x05\x01\x01"} {
		holdNoImage(t, "an example", s)
	}
}

func TestP9_1EachKind(t *testing.T) {
	a := "\x02" + strings.Repeat("\x00", 12) + "\x02" + strings.Repeat("\x00", 19)
	for want, x := range map[string]api.Node{
		"\x01":                             empty(),
		"\x03":                             begin(),
		"\x04":                             end(),
		a:                                  tree.Text("a"),
		"\x05\x02\x03" + a:                 tree.Seq(begin(), tree.Text("a")),
		"\x05\x03\x04\x01\x03":             tree.Seq(end(), empty(), begin()),
		"\x06\x02" + a + "\x04":            tree.Alt(tree.Text("a"), end()),
		"\x06\x02\x06\x02\x01\x03\x04":     tree.Alt(tree.Alt(empty(), begin()), end()),
		"\x06\x02\x01\x06\x02\x03\x04":     tree.Alt(empty(), tree.Alt(begin(), end())),
		"\x07\x07\x07\x03\x04":             tree.Group(7, tree.Group(3, end())),
		"\x08\x00\x00\x00\x03":             tree.Rep(begin(), 0, -1),
		"\x08\x00\x00\x01\x03":             bare(begin(), -1),
		"\x08\x00\x01\x00" + a:             tree.Rep(tree.Text("a"), 0, 0),
		"\x08\x03\x08\x00\x04":             tree.Rep(end(), 3, 7),
		"\x08\x7f\x80\x01\x00\x01":         tree.Rep(empty(), 127, 127),
		"\x08\xff\x01\x80\x02\x00\x01":     tree.Rep(empty(), 255, 255),
		"\x08\x00\x02\x00\x05\x02" + a + a: tree.Rep(tree.Text("aa"), 0, 1),
	} {
		holdRight(t, x, "TRWL\x01"+want)
	}
}

func TestP9_1EachByteOfASet(t *testing.T) {
	for b := range 256 {
		var s api.Set
		s[b/64] = 1 << (b % 64)
		list := make([]byte, 32)
		list[b/8] = 1 << (b % 8)
		holdRight(t, tree.Bytes(s), "TRWL\x01\x02"+string(list))
		for i := range s {
			s[i] = ^s[i]
		}
		for i := range list {
			list[i] = ^list[i]
		}
		holdRight(t, tree.Bytes(s), "TRWL\x01\x02"+string(list))
	}
	holdRight(t, tree.Alt(), "TRWL\x01\x02"+strings.Repeat("\x00", 32))
	words := api.Set{0x0807060504030201, 0x100f0e0d0c0b0a09, 0x1817161514131211, 0x201f1e1d1c1b1a19}
	rising := "\x01\x02\x03\x04\x05\x06\x07\x08\x09\x0a\x0b\x0c\x0d\x0e\x0f\x10\x11\x12\x13\x14\x15\x16\x17\x18\x19\x1a\x1b\x1c\x1d\x1e\x1f\x20"
	holdRight(t, tree.Bytes(words), "TRWL\x01\x02"+rising)
}

func TestP9_1EachNumberOfAGroup(t *testing.T) {
	for num := 1; num <= 999; num++ {
		bytes := []byte{byte(num)}
		if num >= 128 {
			bytes = []byte{byte(128 + num%128), byte(num / 128)}
		}
		holdRight(t, tree.Group(num, end()), "TRWL\x01\x07"+string(bytes)+"\x04")
	}
}

func TestP9_1EachCount(t *testing.T) {
	for least := range 256 {
		for most := -1; most <= 255; most++ {
			if most != -1 && most < least {
				continue
			}
			x := tree.Rep(begin(), least, most)
			holdRight(t, x, "TRWL\x01\x08"+number(least)+number(most+1)+"\x00\x03")
			if least == 0 {
				holdRight(t, bare(begin(), most), "TRWL\x01\x08\x00"+number(most+1)+"\x01\x03")
			}
		}
	}
}

func TestP9_1HowManySubs(t *testing.T) {
	for want, n := range map[string]int{"\x02": 2, "\x7f": 127, "\x80\x01": 128, "\x81\x01": 129, "\xac\x02": 300, "\xcf\x0f": 1999} {
		x := row(n, empty())
		ones := strings.Repeat("\x01", n)
		holdRight(t, x, "TRWL\x01\x05"+want+ones)
		x.Kind = api.KindAlt
		holdRight(t, x, "TRWL\x01\x06"+want+ones)
	}
	for want, n := range map[string]int{"\xd0\x0f": 2000, "\xff\x7f": 16383, "\x80\x80\x01": 16384, "\x81\x80\x01": 16385, "\x81\x80\x04": 65537} {
		holdRight(t, unseen(row(n, empty())), "TRWL\x01\x08\x00\x01\x00\x05"+want+strings.Repeat("\x01", n))
	}
}

// notInForm are trees with a fault that tree.Check tells.
func notInForm() []api.Node {
	a := tree.Text("a")
	list := []api.Node{
		{}, node(9), node(-1), node(256 + 1), node(1<<32 + 1), node(api.KindSeq), node(api.KindAlt), node(api.KindGroup), node(api.KindRep),
		{Kind: api.KindSeq, Subs: []api.Node{a}}, {Kind: api.KindAlt, Subs: []api.Node{a}}, {Kind: api.KindEmpty, Subs: []api.Node{a}}, {Kind: api.KindBytes, Subs: []api.Node{a}},
		{Kind: api.KindEmpty, Set: api.Set{1}}, {Kind: api.KindBegin, Num: 1}, {Kind: api.KindEnd, Max: -1}, {Kind: api.KindBytes, Bare: true},
		{Kind: api.KindGroup, Num: 1, Subs: []api.Node{a, a}}, tree.Group(0, a), tree.Group(-1, a), tree.Group(1000, a), tree.Group(1<<32+1, a),
		tree.Rep(a, -1, -1), tree.Rep(a, 0, -2), tree.Rep(a, 2, 1), tree.Rep(a, 256, 256), tree.Rep(a, 0, 256), tree.Rep(a, 256, -1), tree.Rep(a, math.MinInt, math.MaxInt),
	}
	wrong := tree.Rep(a, 1, 1)
	wrong.Bare = true
	return append(list, wrong)
}

func TestP9_1EncodeFailsAsCheckDoes(t *testing.T) {
	a := tree.Text("a")
	for _, x := range notInForm() {
		holdRefused(t, "not in form", x, api.ErrTree)
		holdRefused(t, "not in form, in a Seq", tree.Seq(a, x), api.ErrTree)
		holdRefused(t, "not in form, in a repeat of none", unseen(x), api.ErrTree)
		holdRefused(t, "not in form and too deep", nest(300, x), api.ErrTree)
		holdRefused(t, "not in form and too big", tree.Seq(row(2500, a), x), api.ErrTree)
	}
	holdRefused(t, "too deep", nest(200, a), api.ErrDeep)
	holdRefused(t, "too deep by a count", tree.Rep(nest(198, a), 2, 2), api.ErrDeep)
	holdRefused(t, "too deep, in a repeat of none", unseen(nest(198, a)), api.ErrDeep)
	holdRefused(t, "too deep and too big", nest(200, row(2500, a)), api.ErrDeep)
	holdRefused(t, "too big", row(2000, a), api.ErrTooBig)
	holdRefused(t, "too big by a count", tree.Rep(tree.Rep(a, 255, 255), 8, 8), api.ErrTooBig)
}

func TestP9_1DecodeOfTreesThatAreNotRight(t *testing.T) {
	a := tree.Text("a")
	for name, x := range map[string]api.Node{
		"a depth of 201":               nest(200, a),
		"a depth of 201 by a count":    tree.Rep(nest(198, a), 2, 2),
		"a depth of 201, unseen":       unseen(nest(198, a)),
		"a size of 2001":               row(2000, a),
		"a size of 2001 by a count":    tree.Rep(row(999, a), 2, 2),
		"a size far too great":         tree.Rep(tree.Rep(a, 255, 255), 255, 255),
		"group 0":                      tree.Group(0, a),
		"group 1000":                   tree.Group(1000, a),
		"a Min of 256":                 tree.Rep(a, 256, -1),
		"256 to 256":                   tree.Rep(a, 256, 256),
		"a Max of 256":                 tree.Rep(a, 0, 256),
		"2 to 1":                       tree.Rep(a, 2, 1),
		"1 to 0":                       tree.Rep(a, 1, 0),
		"255 to 254":                   tree.Rep(a, 255, 254),
		"a Seq of none":                node(api.KindSeq),
		"an Alt of none":               node(api.KindAlt),
		"a Seq of one":                 {Kind: api.KindSeq, Subs: []api.Node{a}},
		"an Alt of one":                {Kind: api.KindAlt, Subs: []api.Node{a}},
		"kind 0":                       node(0),
		"kind 9":                       node(9),
		"bare, 1 to 1":                 {Kind: api.KindRep, Min: 1, Max: 1, Bare: true, Subs: []api.Node{a}},
		"bare, 2 without end":          {Kind: api.KindRep, Min: 2, Max: -1, Bare: true, Subs: []api.Node{a}},
		"a group below a right number": tree.Group(5, tree.Group(0, a)),
	} {
		if tree.Check(x) == nil {
			t.Fatalf("%s: a right tree", name)
		}
		holdNoImage(t, name, imageOf(x))
		holdNoImage(t, name+" in a Seq", imageOf(tree.Seq(a, x)))
		holdNoImage(t, name+" in a Seq", imageOf(tree.Seq(x, a)))
	}
	for kind := range 256 {
		if kind != api.KindEmpty && kind != api.KindBegin && kind != api.KindEnd {
			holdNoImage(t, "a kind alone", head+chr(kind))
		}
		if kind > 1 {
			holdNoImage(t, "a bare that is neither 0 nor 1", head+"\x08\x00\x02"+chr(kind)+"\x04")
		}
	}
}

func TestP9_1TheHead(t *testing.T) {
	whole := imageOf(tree.Text("a"))
	for at := range len(head) {
		for b := range 256 {
			if byte(b) != whole[at] {
				holdNoImage(t, "a byte of the head", whole[:at]+chr(b)+whole[at+1:])
			}
		}
		holdNoImage(t, "a byte less", whole[:at]+whole[at+1:])
		holdNoImage(t, "a byte more", whole[:at]+chr(int(whole[at]))+whole[at:])
		holdNoImage(t, "the head's beginning", whole[:at])
		holdNoImage(t, "the head's end", whole[at+1:])
	}
	holdNoImage(t, "two heads", head+whole)
	holdNoImage(t, "no head", body(tree.Text("a")))
	holdNoImage(t, "something ahead of the head", "\x00"+whole)
}

// longer are the same number in more bytes than it takes.
func longer(s string) []string {
	last := len(s) - 1
	open := s[:last] + chr(int(s[last])+128)
	list := []string{open + "\x00"}
	for _, n := range []int{1, 2, 3, 4, 7, 8, 9, 18, 40, 700} {
		list = append(list, open+strings.Repeat("\x80", n)+"\x00")
	}
	return list
}

// greater are numbers that are the number again where only the lowest bits of them are taken.
func greater(s string) []string {
	var list []string
	for _, bit := range []int{14, 21, 28, 31, 32, 35, 42, 49, 56, 62, 63, 64, 70, 127, 128, 256, 511, 512, 7000} {
		digits := []byte(s)
		digits[len(digits)-1] |= 128
		for len(digits) < bit/7 {
			digits = append(digits, 128)
		}
		list = append(list, string(append(digits, 1<<(bit%7))))
	}
	return list
}

func TestP9_1NumbersThatAreNotTheShortestOrTooGreat(t *testing.T) {
	for _, n := range []int{0, 1, 2, 127, 128, 200, 255, 300, 999, 1999} {
		whole := number(n)
		for _, s := range append(longer(whole), greater(whole)...) {
			name := "a number for " + strconv.Itoa(n)
			holdNoImage(t, name, head+"\x05"+s+strings.Repeat("\x01", n))
			holdNoImage(t, name, head+"\x06"+s+strings.Repeat("\x01", n))
			holdNoImage(t, name, head+"\x07"+s+"\x01")
			holdNoImage(t, name, head+"\x08"+s+"\x00\x00\x01")
			holdNoImage(t, name, head+"\x08\x00"+s+"\x00\x01")
			holdNoImage(t, name, head+"\x08\x00"+s+"\x01\x01")
			holdNoImage(t, name, head+"\x08"+s+number(n+1)+"\x00\x01")
		}
		for at := range len(whole) {
			open := whole[:at] + chr(int(whole[at]|128))
			for _, kind := range []string{"\x05", "\x06", "\x07", "\x08", "\x08\x00"} {
				holdNoImage(t, "a number without an end", head+kind+open)
				holdNoImage(t, "a number without an end", head+kind+open+strings.Repeat("\xff", 5000))
				holdNoImage(t, "a number without an end", head+kind+open+strings.Repeat("\x80", 5000))
			}
		}
	}
}

func TestP9_1BytesThatClaimMoreThanTheyHave(t *testing.T) {
	for _, claim := range []string{"\x03", "\x80\x01", "\xff\xff\xff\xff\x07", "\x80\x80\x80\x80\x08", "\xff\xff\xff\xff\x0f", "\xff\xff\xff\xff\xff\xff\xff\xff\x7f", "\xff\xff\xff\xff\xff\xff\xff\xff\xff\x01"} {
		for _, kind := range []string{"\x05", "\x06"} {
			holdNoImage(t, "more Subs than there are", head+kind+claim)
			holdNoImage(t, "more Subs than there are", head+kind+claim+"\x01\x01")
			holdNoImage(t, "more Subs than there are, in one another", head+strings.Repeat(kind+claim, 300))
			holdNoImage(t, "more Subs than there are, in one another", head+strings.Repeat(kind+claim, 199)+"\x01\x01")
		}
	}
	for _, level := range []string{"\x05\x02", "\x06\xff\x01", "\x07\x01", "\x08\x00\x00\x00", "\x08\x00\x01\x00"} {
		holdNoImage(t, "nested without end", head+strings.Repeat(level, 1<<22))
		holdNoImage(t, "nested, with an end", head+strings.Repeat(level, 1<<22)+"\x01")
	}
}

func TestP9_1TooLittleOrTooMuch(t *testing.T) {
	for _, x := range rightTrees() {
		whole := imageOf(x)
		step := 1 + len(whole)/300
		for n := 0; n < len(whole); n += step {
			holdNoImage(t, "the beginning of an image", whole[:n])
		}
		holdNoImage(t, "all but the last byte", whole[:len(whole)-1])
		holdNoImage(t, "an image twice", whole+whole)
		for b := 0; b < 256; b += step {
			holdNoImage(t, "a byte behind an image", whole+chr(b))
		}
	}
}

func TestP9_1AllShortBytes(t *testing.T) {
	const most = 6
	want := map[string]api.Node{}
	for _, list := range smallTrees(most) {
		for _, x := range list {
			want[body(x)] = x
		}
	}
	taken := 0
	var visit func(s string)
	visit = func(s string) {
		x, err := image.Decode([]byte(head + s))
		right, ok := want[s]
		if ok != (err == nil) || !tree.Same(x, right) {
			t.Fatalf("Decode of %q behind the head: %v", s, err)
		}
		if ok {
			taken++
			holdRight(t, right, head+s)
		}
		for i := 0; i < len(few) && len(s) < most; i++ {
			visit(s + few[i:i+1])
		}
	}
	visit("")
	if taken != len(want) || taken < 1000 {
		t.Errorf("%d images taken of %d", taken, len(want))
	}
}

func TestP9_1TreesOfAllSorts(t *testing.T) {
	for _, x := range rightTrees() {
		holdRight(t, x, imageOf(x))
	}
}

func TestP9_1WhatIsHandedInIsLeft(t *testing.T) {
	for _, x := range rightTrees() {
		kept := tree.Copy(x)
		b, _ := image.Encode(x)
		want := bytes.Clone(b)
		again, _ := image.Encode(x)
		scrub(b[:cap(b)])
		if !tree.Same(x, kept) || !bytes.Equal(again, want) {
			t.Fatalf("Encode: what is handed in or another answer is changed, of %q", short(string(want)))
		}
		room := append(bytes.Clone(want), "behind"...)
		b = room[:len(want)]
		got, _ := image.Decode(b)
		if !bytes.Equal(room, append(bytes.Clone(want), "behind"...)) {
			t.Fatalf("Decode changes %q", short(string(want)))
		}
		scrub(room)
		if !tree.Same(got, kept) {
			t.Fatalf("Decode keeps %q", short(string(want)))
		}
	}
}

// scrub makes every byte another one.
func scrub(b []byte) {
	for i := range b {
		b[i] ^= 0x55
	}
}

func TestP9_1NewMemory(t *testing.T) {
	for _, x := range rightTrees() {
		b := []byte(imageOf(x))
		first, _ := image.Decode(b)
		second, _ := image.Decode(b)
		other := slots(second.Subs)
		for at, n := range slots(first.Subs) {
			if n > 1 {
				t.Fatalf("two lists of Decode(%q) share memory", short(string(b)))
			}
			if other[at] > 0 {
				t.Fatalf("two answers of Decode(%q) share memory", short(string(b)))
			}
		}
	}
}

func TestP9_2ReadAgain(t *testing.T) {
	for _, x := range rightTrees() {
		b, err := image.Encode(x)
		isJust(t, "Encode", err, nil)
		back, err := image.Decode(b)
		isJust(t, "Decode", err, nil)
		if !tree.Same(back, x) {
			t.Errorf("another tree is read from %q", short(string(b)))
		}
		again, err := image.Encode(back)
		if err != nil || !bytes.Equal(again, b) {
			t.Errorf("Encode(Decode(%q)) = %q, %v", short(string(b)), short(string(again)), err)
		}
	}
}

func TestP9_2ChangedImages(t *testing.T) {
	taken, tried := 0, 0
	hold := func(s string) {
		tried++
		if holdAnyBytes(t, s) {
			taken++
		}
	}
	trees := rightTrees()
	for at, x := range trees {
		whole := imageOf(x)
		if len(whole) > 200 {
			continue
		}
		for i := range len(whole) {
			for _, b := range []byte{whole[i] + 1, whole[i] - 1, whole[i] ^ 128, byte(at + i), 0, 1, 2, 255} {
				hold(whole[:i] + chr(int(b)) + whole[i+1:])
			}
			hold(whole[:i] + whole[i+1:])
			hold(whole[:i] + chr(at+i) + whole[i:])
			hold(whole[:i] + imageOf(trees[(at+i)%200])[min(i, 6):])
		}
	}
	if taken < 1000 || tried-taken < 1000 {
		t.Errorf("%d of %d changed images are taken", taken, tried)
	}
}

func TestP9_2NoImageBeginsAnotherOne(t *testing.T) {
	var images []string
	trees := rightTrees()
	for _, list := range smallTrees(6) {
		trees = append(trees, list...)
	}
	for _, x := range trees {
		b, err := image.Encode(x)
		isJust(t, "Encode", err, nil)
		images = append(images, string(b))
	}
	slices.Sort(images)
	images = slices.Compact(images)
	// Where a text begins another one, it begins the one that is next to it among the sorted ones too.
	for i, s := range images[1:] {
		if strings.HasPrefix(s, images[i]) {
			t.Errorf("%q begins %q", short(images[i]), short(s))
		}
	}
}
