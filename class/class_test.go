package class_test

import (
	"errors"
	"slices"
	"strings"
	"testing"

	"trawl/api"
	"trawl/class"
	"trawl/octet"
)

// rules say of each byte whether it is in a class; they are the chapter's words, told by numbers.
func rules() map[string]func(b int) bool {
	upper := func(b int) bool { return 65 <= b && b <= 90 }
	lower := func(b int) bool { return 97 <= b && b <= 122 }
	digit := func(b int) bool { return 48 <= b && b <= 57 }
	alnum := func(b int) bool { return upper(b) || lower(b) || digit(b) }
	graph := func(b int) bool { return 33 <= b && b <= 126 }
	return map[string]func(b int) bool{
		"alpha":  func(b int) bool { return upper(b) || lower(b) },
		"digit":  digit,
		"alnum":  alnum,
		"upper":  upper,
		"lower":  lower,
		"xdigit": func(b int) bool { return digit(b) || 65 <= b && b <= 70 || 97 <= b && b <= 102 },
		"blank":  func(b int) bool { return b == 9 || b == 32 },
		"space":  func(b int) bool { return 9 <= b && b <= 13 || b == 32 },
		"cntrl":  func(b int) bool { return b <= 31 || b == 127 },
		"graph":  graph,
		"print":  func(b int) bool { return 32 <= b && b <= 126 },
		"punct":  func(b int) bool { return graph(b) && !alnum(b) },
	}
}

// by lays the bits of a set by the words of api.Set alone, as a rule says of each byte.
func by(rule func(b int) bool) api.Set {
	var s api.Set
	for b := range 256 {
		if rule(b) {
			s[b/64] += 1 << (b % 64)
		}
	}
	return s
}

// other is the other case of a letter, told by numbers.
func other(b int) int {
	switch {
	case 65 <= b && b <= 90:
		return b + 32
	case 97 <= b && b <= 122:
		return b - 32
	}
	return b
}

// sets are what folding is tried on: none, one and all bytes, the edges of the letters, the classes, and mixed ones.
func sets() []api.Set {
	list := []api.Set{{}, by(func(int) bool { return true })}
	for one := range 256 {
		list = append(list, by(func(b int) bool { return b == one }))
	}
	list = append(list,
		by(func(b int) bool { return b == '@' || b == '[' || b == '`' || b == '{' }),
		by(func(b int) bool { return b == 'A' || b == 'z' }),
		by(func(b int) bool { return b == 'Z' || b == 'a' }),
		by(func(b int) bool { return b >= 128 }),
		by(func(b int) bool { return b%2 == 0 }),
		by(func(b int) bool { return b != 'q' && b != 'Q' }),
	)
	for _, rule := range rules() {
		list = append(list, by(rule))
	}
	state := uint32(1)
	for i := range 24 {
		list = append(list, by(func(int) bool {
			state = state*1664525 + 1013904223
			return int(state>>24)%24 <= i
		}))
	}
	return list
}

// named is the class of a name that there must be.
func named(t *testing.T, name string) api.Set {
	t.Helper()
	s, err := class.Named(name)
	if err != nil {
		t.Fatalf("Named(%q): %v", name, err)
	}
	return s
}

func TestP2_1Named(t *testing.T) {
	for name, rule := range rules() {
		if got := named(t, name); got != by(rule) {
			t.Errorf("Named(%q) = %v, want %v", name, got, by(rule))
		}
	}
}

// notNames are near a name, or in use elsewhere, and no name.
func notNames() []string {
	list := []string{"", " ", "word", "ascii", "any", "[:alpha:]", ":alpha:", "alpha digit", "alphadigit", "\xff", "álpha", strings.Repeat("a", 100000)}
	known := rules()
	for name := range known {
		list = append(list,
			strings.ToUpper(name),
			strings.ToUpper(name[:1])+name[1:],
			name+" ", " "+name, name+"\x00", name+"\n", name+name,
			name[1:], name[:len(name)-1],
		)
	}
	// A name without its first letter may be one itself, as that of xdigit is.
	return slices.DeleteFunc(list, func(text string) bool { return known[text] != nil })
}

func TestP2_1NamedOfNoName(t *testing.T) {
	for _, name := range notNames() {
		s, err := class.Named(name)
		if !errors.Is(err, api.ErrClass) || s != (api.Set{}) {
			t.Errorf("Named(%.40q) = %v, %v", name, s, err)
		}
		for _, wrong := range []error{api.ErrBracket, api.ErrRange, api.ErrCollate, api.ErrArgument} {
			if errors.Is(err, wrong) {
				t.Errorf("Named(%.40q) fails with %v too", name, wrong)
			}
		}
		var fault *api.Fault
		var listed *api.Listed
		if errors.As(err, &fault) || errors.As(err, &listed) {
			t.Errorf("Named(%.40q) tells a place or a number", name)
		}
	}
}

func TestP2_1Names(t *testing.T) {
	want := []string{"alnum", "alpha", "blank", "cntrl", "digit", "graph", "lower", "print", "punct", "space", "upper", "xdigit"}
	if got := class.Names(); !slices.Equal(got, want) {
		t.Errorf("Names() = %q", got)
	}
}

func TestP2_1NamesAreNewMemory(t *testing.T) {
	kept := class.Names()
	want := slices.Clone(kept)
	changed := class.Names()
	for i := range changed {
		changed[i] = "changed"
	}
	spare := changed[:cap(changed)]
	for i := range spare {
		spare[i] = "spare"
	}
	if !slices.Equal(kept, want) {
		t.Errorf("an answer changed with a later one: %q", kept)
	}
	if got := class.Names(); !slices.Equal(got, want) {
		t.Errorf("an answer changed with an earlier one: %q", got)
	}
}

func TestP2_1Other(t *testing.T) {
	for b := range 256 {
		if got := class.Other(byte(b)); int(got) != other(b) {
			t.Errorf("Other(%d) = %d, want %d", b, got, other(b))
		}
	}
}

func TestP2_1Fold(t *testing.T) {
	for _, s := range sets() {
		want := by(func(b int) bool { return octet.Has(s, byte(b)) || octet.Has(s, byte(other(b))) })
		if got := class.Fold(s); got != want {
			t.Errorf("Fold(%v) = %v, want %v", s, got, want)
		}
	}
}

func TestP2_1Word(t *testing.T) {
	alnum := rules()["alnum"]
	for b := range 256 {
		want := alnum(b) || b == 95
		if got := class.Word(byte(b)); got != want {
			t.Errorf("Word(%d) = %v", b, got)
		}
	}
}

func TestP2_1Examples(t *testing.T) {
	if named(t, "digit") != octet.Range(48, 57) {
		t.Error("digit")
	}
	for name, want := range map[string]int{"punct": 32, "print": 95, "cntrl": 33, "space": 6, "xdigit": 22} {
		if got := octet.Count(named(t, name)); got != want {
			t.Errorf("%s has %d bytes, want %d", name, got, want)
		}
	}
	if class.Other('a') != 'A' || class.Other('[') != '[' {
		t.Error("Other")
	}
	if class.Fold(octet.Of('a', '1')) != octet.Of('A', 'a', '1') {
		t.Error("Fold")
	}
	if !class.Word('_') || !class.Word('9') || class.Word('-') {
		t.Error("Word")
	}
}

func TestP2_2Folds(t *testing.T) {
	for _, a := range sets() {
		folded := class.Fold(a)
		if class.Fold(folded) != folded {
			t.Errorf("Fold of Fold(%v)", a)
		}
		if octet.Less(a, folded) != (api.Set{}) {
			t.Errorf("Fold(%v) leaves a byte out", a)
		}
		for _, b := range sets() {
			if class.Fold(octet.Join(a, b)) != octet.Join(folded, class.Fold(b)) {
				t.Fatalf("Fold of Join(%v, %v)", a, b)
			}
		}
	}
}

func TestP2_2OtherOfOther(t *testing.T) {
	for b := range 256 {
		if got := class.Other(class.Other(byte(b))); int(got) != b {
			t.Errorf("Other of Other(%d) = %d", b, got)
		}
	}
}

func TestP2_2NamesAndClasses(t *testing.T) {
	names := class.Names()
	for i, name := range names {
		if i > 0 && names[i-1] >= name {
			t.Errorf("%q stands behind %q", name, names[i-1])
		}
		if named(t, name) == (api.Set{}) {
			t.Errorf("%s is empty", name)
		}
		if octet.Meet(named(t, name), octet.Range(128, 255)) != (api.Set{}) {
			t.Errorf("%s has a byte above 127", name)
		}
	}
	if octet.Join(named(t, "alnum"), named(t, "punct"), octet.Of(32)) != named(t, "print") {
		t.Error("alnum, punct and the blank don't make print")
	}
	if octet.Join(named(t, "upper"), named(t, "lower")) != named(t, "alpha") {
		t.Error("upper and lower don't make alpha")
	}
}
