package scene_test

import (
	"slices"
	"strings"
	"sync"
	"testing"

	"trawl/api"
	"trawl/scene"
)

// holdBytes holds what a scene tells of its bytes against the model.
func holdBytes(t *testing.T, x *scene.Scene, m model) {
	t.Helper()
	n := len(m.text)
	if x.Text() != string(m.text) || x.Len() != n {
		t.Fatalf("Text %q, Len %d, want %q, %d", x.Text(), x.Len(), m.text, n)
	}
	for i, want := range m.text {
		if b, ok := x.Byte(i); b != want || !ok {
			t.Fatalf("%q: Byte(%d) = %d, %v, want %d", m.text, i, b, ok, want)
		}
	}
	for _, i := range append(outside(n), n) {
		if b, ok := x.Byte(i); b != 0 || ok {
			t.Fatalf("%q: Byte(%d) = %d, %v, though there is none", m.text, i, b, ok)
		}
	}
}

// holdPlaces holds what a scene tells of its places, and of numbers that are none, against the model.
func holdPlaces(t *testing.T, x *scene.Scene, m model) {
	t.Helper()
	for i := range len(m.text) + 1 {
		if x.Begin(i) != m.begin[i] || x.End(i) != m.end[i] {
			t.Fatalf("%q: place %d: Begin %v, End %v, want %v, %v", m.text, i, x.Begin(i), x.End(i), m.begin[i], m.end[i])
		}
		if want := marks(m.begin[i], m.end[i]); x.Marks(i) != want {
			t.Fatalf("%q: Marks(%d) = %d, want %d", m.text, i, x.Marks(i), want)
		}
	}
	for _, i := range outside(len(m.text)) {
		if x.Begin(i) || x.End(i) || x.Marks(i) != 0 {
			t.Fatalf("%q: %d is no place: Begin %v, End %v, Marks %d", m.text, i, x.Begin(i), x.End(i), x.Marks(i))
		}
	}
}

func hold(t *testing.T, x *scene.Scene, m model) {
	t.Helper()
	holdBytes(t, x, m)
	holdPlaces(t, x, m)
}

func TestP10_1ShortSubjects(t *testing.T) {
	for _, s := range short() {
		for cflags := range 16 {
			for eflags := range 4 {
				x, m := scene.New(s, cflags, eflags), modelOf(s, cflags, eflags)
				hold(t, x, m)
				hold(t, x.Turned(), m.turned())
			}
		}
	}
}

func TestP10_1AllFlags(t *testing.T) {
	for _, s := range []string{"", "a", "\n", "a\nb", "\n\nab\n", "a\n\rb"} {
		for _, cflags := range numbers() {
			for _, eflags := range numbers() {
				x, m := scene.New(s, cflags, eflags), modelOf(s, cflags, eflags)
				holdPlaces(t, x, m)
				holdPlaces(t, x.Turned(), m.turned())
			}
		}
	}
}

func TestP10_1FlagsOfOneKindAreNotTheOther(t *testing.T) {
	x := scene.New("a\nb", api.NotBol|api.NotEol, api.Newline)
	for i, want := range []int{1, 0, 0, 2} {
		if x.Marks(i) != want {
			t.Errorf("Newline among the flags of execution: Marks(%d) = %d, want %d", i, x.Marks(i), want)
		}
	}
	y := scene.New("a\nb", api.Newline|api.NotBol|api.NotEol, 0)
	for i, want := range []int{1, 2, 1, 2} {
		if y.Marks(i) != want {
			t.Errorf("NotBol and NotEol among the flags of compiling: Marks(%d) = %d, want %d", i, y.Marks(i), want)
		}
	}
}

func TestP10_1NotBolAndNotEolAreOfTheSubjectAlone(t *testing.T) {
	x := scene.New("\na\n", api.Newline, api.NotBol|api.NotEol)
	for i, want := range []int{2, 1, 2, 1} {
		if x.Marks(i) != want {
			t.Errorf("Marks(%d) = %d, want %d", i, x.Marks(i), want)
		}
	}
	bol := scene.New("\na\n", api.Newline, api.NotBol)
	eol := scene.New("\na\n", api.Newline, api.NotEol)
	if bol.Begin(0) || !bol.End(0) || !bol.End(3) || !bol.Begin(3) {
		t.Error("NotBol says of the first place alone that it is no beginning")
	}
	if !eol.Begin(0) || !eol.End(0) || eol.End(3) || !eol.Begin(3) {
		t.Error("NotEol says of the last place alone that it is no end")
	}
}

func TestP10_1EachByte(t *testing.T) {
	for b := range 256 {
		s := "x" + string([]byte{byte(b)}) + "y"
		for cflags := range 16 {
			x, m := scene.New(s, cflags, 0), modelOf(s, cflags, 0)
			hold(t, x, m)
			hold(t, x.Turned(), m.turned())
			if lines := b == 10 && cflags&4 != 0; x.End(1) != lines || x.Begin(2) != lines {
				t.Fatalf("byte %d, flags %d: End(1) %v, Begin(2) %v", b, cflags, x.End(1), x.Begin(2))
			}
		}
	}
}

func TestP10_1LongSubjects(t *testing.T) {
	all := make([]byte, 0, 256)
	for b := range 256 {
		all = append(all, byte(b))
	}
	for _, s := range []string{
		strings.Repeat("\n", 300), strings.Repeat("a", 70000), strings.Repeat("line\n", 20000), strings.Repeat(string(all), 300),
		strings.Repeat("a", 65535) + "\n" + strings.Repeat("\u00e4\n", 3), strings.Repeat("ab\n\n", 64) + "c",
	} {
		for _, cflags := range []int{0, 4} {
			for eflags := range 4 {
				x, m := scene.New(s, cflags, eflags), modelOf(s, cflags, eflags)
				if !told(x).same(m) || !told(x.Turned()).same(m.turned()) {
					t.Errorf("a subject of %d bytes, flags %d and %d", len(s), cflags, eflags)
				}
				if _, ok := x.Byte(len(s)); ok || x.Marks(len(s)+1) != 0 || x.Marks(-1) != 0 {
					t.Errorf("a subject of %d bytes, flags %d and %d: outside", len(s), cflags, eflags)
				}
			}
		}
	}
}

func TestP10_1Examples(t *testing.T) {
	if x := scene.New("a", 0, 0); !x.Begin(0) || x.Begin(1) || x.End(0) || !x.End(1) {
		t.Error("a: 0 is a beginning, 1 an end")
	}
	for eflags, want := range []int{3, 2, 1, 0} {
		if got := scene.New("", 0, eflags).Marks(0); got != want {
			t.Errorf("the empty subject, flags %d: Marks(0) = %d, want %d", eflags, got, want)
		}
	}
	x := scene.New("a\nb", 4, 3)
	for i, want := range []int{0, 2, 1, 0} {
		if x.Marks(i) != want {
			t.Errorf("two lines: Marks(%d) = %d, want %d", i, x.Marks(i), want)
		}
	}
	for _, i := range []int{3, -1} {
		if b, ok := x.Byte(i); b != 0 || ok {
			t.Errorf("Byte(%d) = %d, %v", i, b, ok)
		}
	}
	if y := scene.New("\n", 4, 0); y.Marks(0) != 3 || y.Marks(1) != 3 {
		t.Error("a newline: both places are both")
	}
}

func TestP10_1TurnedHasTheBytesInTheOtherOrder(t *testing.T) {
	for s, want := range map[string]string{"": "", "a": "a", "abc": "cba", "ab\n": "\nba", "\u00e4": "\xa4\xc3", "\xff\x00": "\x00\xff"} {
		if got := scene.New(s, 4, 0).Turned().Text(); got != want {
			t.Errorf("Turned of %q is %q, want %q", s, got, want)
		}
	}
}

func TestP10_1TurnedAnswersTheOtherSide(t *testing.T) {
	head := scene.New("ab", 0, api.NotEol).Turned()
	if head.Begin(0) || !head.End(2) {
		t.Error("the place that NotEol says is no end is no beginning of the turned scene")
	}
	tail := scene.New("ab", 0, api.NotBol).Turned()
	if !tail.Begin(0) || tail.End(2) {
		t.Error("the place that NotBol says is no beginning is no end of the turned scene")
	}
}

func TestP10_1ScenesNeverChange(t *testing.T) {
	bytes := []byte("ab\ncd")
	x := scene.New(string(bytes), 4, 1)
	m := modelOf("ab\ncd", 4, 1)
	bytes[0] = '\n'
	y := x.Turned()
	for range 3 {
		hold(t, x, m)
		hold(t, y, m.turned())
		scene.New("other\n", 0, 2).Turned()
		y.Turned().Turned()
	}
	text := []byte(x.Text())
	slices.Reverse(text)
	hold(t, x, m)
}

func TestP10_1ScenesHaveNothingInCommon(t *testing.T) {
	var scenes []*scene.Scene
	var models []model
	for _, s := range short()[:60] {
		for flags := range 8 {
			scenes = append(scenes, scene.New(s, flags, flags>>1))
			models = append(models, modelOf(s, flags, flags>>1))
		}
	}
	for i, x := range scenes {
		hold(t, x, models[i])
		if slices.Index(scenes, x) != i || x.Turned() == x {
			t.Errorf("scene %d is another one too", i)
		}
	}
}

func TestP10_1SeveralMayAskOneScene(t *testing.T) {
	x := scene.New("ab\n\ncd", 4, 2)
	m := modelOf("ab\n\ncd", 4, 2)
	var group sync.WaitGroup
	wrong := make([]bool, 8)
	for i := range wrong {
		group.Go(func() {
			for range 100 {
				wrong[i] = wrong[i] || !told(x).same(m) || !told(x.Turned()).same(m.turned())
			}
		})
	}
	group.Wait()
	if slices.Contains(wrong, true) {
		t.Error("a scene that several ask tells something else")
	}
}

func TestP10_2TurnedTwiceIsAsTheScene(t *testing.T) {
	for _, s := range short() {
		for cflags := range 8 {
			for eflags := range 4 {
				x := scene.New(s, cflags, eflags)
				y := x.Turned().Turned()
				hold(t, y, told(x))
				if !told(y.Turned()).same(told(x.Turned())) {
					t.Fatalf("%q, flags %d and %d: turned three times", s, cflags, eflags)
				}
			}
		}
	}
}

func TestP10_2WithoutNewlineOnlyTheEnds(t *testing.T) {
	for _, s := range short() {
		for _, cflags := range numbers() {
			if on(cflags, 2) {
				continue
			}
			for eflags := range 4 {
				for _, x := range []*scene.Scene{scene.New(s, cflags, eflags), scene.New(s, cflags, eflags).Turned()} {
					for i := range len(s) + 1 {
						if i != 0 && x.Begin(i) || i != len(s) && x.End(i) {
							t.Fatalf("%q, flags %d and %d: place %d: Begin %v, End %v", s, cflags, eflags, i, x.Begin(i), x.End(i))
						}
					}
				}
			}
		}
	}
}
