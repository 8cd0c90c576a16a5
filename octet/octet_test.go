package octet_test

import (
	"slices"
	"testing"

	"trawl/api"
	"trawl/octet"
)

func TestP1_1Of(t *testing.T) {
	for _, m := range models() {
		if got := octet.Of(m.bytes()...); got != m.set() {
			t.Errorf("Of(%v) = %v, want %v", m.bytes(), got, m.set())
		}
	}
	for b := range 256 {
		if got := octet.Of(byte(b)); got != modelOf(byte(b)).set() {
			t.Errorf("Of(%d) = %v", b, got)
		}
	}
	if octet.Of() != (api.Set{}) {
		t.Error("Of of no byte has one")
	}
	if got := octet.Of('a', 'c', 'a'); got != (api.Set{0, 1<<33 + 1<<35, 0, 0}) {
		t.Errorf("Of('a', 'c', 'a') = %v", got)
	}
}

func TestP1_1OfLeavesItsArgument(t *testing.T) {
	room := []byte{9, 3, 9, 0, 255, 77, 78}
	before := slices.Clone(room)
	octet.Of(room[:5]...)
	if !slices.Equal(room, before) {
		t.Errorf("Of changed its bytes to %v", room)
	}
}

func TestP1_1Range(t *testing.T) {
	for lo := range 256 {
		for hi := range 256 {
			want := by(func(b int) bool { return lo <= b && b <= hi }).set()
			if got := octet.Range(byte(lo), byte(hi)); got != want {
				t.Fatalf("Range(%d, %d) = %v, want %v", lo, hi, got, want)
			}
		}
	}
	if octet.Range('c', 'a') != (api.Set{}) || octet.Range(255, 0) != (api.Set{}) {
		t.Error("Range with hi below lo has a byte")
	}
}

func TestP1_1Has(t *testing.T) {
	for _, m := range models() {
		for b := range 256 {
			if got := octet.Has(m.set(), byte(b)); got != m[b] {
				t.Errorf("Has(%v, %d) = %v", m.bytes(), b, got)
			}
		}
	}
}

func TestP1_1OfTwoSets(t *testing.T) {
	for _, a := range models() {
		for _, b := range models() {
			join := by(func(i int) bool { return a[i] || b[i] }).set()
			meet := by(func(i int) bool { return a[i] && b[i] }).set()
			less := by(func(i int) bool { return a[i] && !b[i] }).set()
			if got := octet.Join(a.set(), b.set()); got != join {
				t.Fatalf("Join(%v, %v) = %v", a.bytes(), b.bytes(), got)
			}
			if got := octet.Meet(a.set(), b.set()); got != meet {
				t.Fatalf("Meet(%v, %v) = %v", a.bytes(), b.bytes(), got)
			}
			if got := octet.Less(a.set(), b.set()); got != less {
				t.Fatalf("Less(%v, %v) = %v", a.bytes(), b.bytes(), got)
			}
		}
	}
}

func TestP1_1OfAnyNumberOfSets(t *testing.T) {
	if octet.Join() != (api.Set{}) {
		t.Error("Join of none has a byte")
	}
	if octet.Meet() != by(func(int) bool { return true }).set() {
		t.Error("Meet of none hasn't all bytes")
	}
	list := models()
	for n := 1; n <= len(list); n++ {
		some := list[len(list)-n:]
		var sets []api.Set
		for _, m := range some {
			sets = append(sets, m.set())
		}
		join := by(func(b int) bool { return slices.ContainsFunc(some, func(m model) bool { return m[b] }) })
		meet := by(func(b int) bool { return !slices.ContainsFunc(some, func(m model) bool { return !m[b] }) })
		if octet.Join(sets...) != join.set() {
			t.Errorf("Join of the last %d", n)
		}
		if octet.Meet(sets...) != meet.set() {
			t.Errorf("Meet of the last %d", n)
		}
	}
}

func TestP1_1JoinAndMeetLeaveTheirArguments(t *testing.T) {
	for _, call := range []func(...api.Set) api.Set{octet.Join, octet.Meet} {
		room := []api.Set{octet.Range(0, 99), octet.Range(50, 255), octet.Of(7)}
		before := slices.Clone(room)
		call(room[:2]...)
		if !slices.Equal(room, before) {
			t.Errorf("the sets became %v", room)
		}
	}
}

func TestP1_1Not(t *testing.T) {
	for _, m := range models() {
		s := m.set()
		want := by(func(b int) bool { return !m[b] }).set()
		if got := octet.Not(s); got != want {
			t.Errorf("Not(%v) = %v", m.bytes(), got)
		}
		if s != m.set() {
			t.Errorf("Not changed its set %v", m.bytes())
		}
	}
	if !octet.Has(octet.Not(api.Set{}), '\n') {
		t.Error("Not leaves the newline out")
	}
}

func TestP1_1Count(t *testing.T) {
	for _, m := range models() {
		if got := octet.Count(m.set()); got != len(m.bytes()) {
			t.Errorf("Count(%v) = %d", m.bytes(), got)
		}
	}
	for n := range 257 {
		if got := octet.Count(by(func(b int) bool { return b < n }).set()); got != n {
			t.Errorf("Count of the first %d bytes = %d", n, got)
		}
	}
}

func TestP1_1First(t *testing.T) {
	for lo := range 256 {
		upward := by(func(b int) bool { return b >= lo }).set()
		for _, s := range []api.Set{upward, modelOf(byte(lo)).set(), modelOf(255, byte(lo)).set()} {
			if b, ok := octet.First(s); int(b) != lo || !ok {
				t.Errorf("First(%v) = %d, %v, want %d", s, b, ok, lo)
			}
		}
	}
	if b, ok := octet.First(api.Set{}); b != 0 || ok {
		t.Errorf("First of no byte = %d, %v", b, ok)
	}
}

func TestP1_1Rows(t *testing.T) {
	for _, m := range models() {
		if got := collect(octet.Rows(m.set())); !slices.Equal(got, m.rows()) {
			t.Errorf("Rows(%v) = %v, want %v", m.bytes(), got, m.rows())
		}
	}
	for lo := range 256 {
		for hi := lo; hi < 256; hi++ {
			s := by(func(b int) bool { return lo <= b && b <= hi }).set()
			if got := collect(octet.Rows(s)); !slices.Equal(got, []row{{byte(lo), byte(hi)}}) {
				t.Fatalf("Rows of %d to %d = %v", lo, hi, got)
			}
		}
	}
}

func TestP1_1RowsLeftEarly(t *testing.T) {
	for _, m := range models() {
		want := m.rows()
		rows := octet.Rows(m.set())
		for stop := 1; stop <= len(want); stop++ {
			var got []row
			// A plain call, and not range, sees a yield that comes behind a false.
			rows(func(lo, hi byte) bool {
				got = append(got, row{lo, hi})
				return len(got) < stop
			})
			if !slices.Equal(got, want[:stop]) {
				t.Fatalf("Rows(%v) left at %d: %v", m.bytes(), stop, got)
			}
		}
		if again := collect(rows); !slices.Equal(again, want) {
			t.Errorf("Rows(%v) gone over again: %v", m.bytes(), again)
		}
	}
}

func TestP1_1RowsInsideThemselves(t *testing.T) {
	s := octet.Of(255, 0, 1, 64, 63)
	want := []row{{0, 1}, {63, 64}, {255, 255}}
	rows := octet.Rows(s)
	var outer []row
	for lo, hi := range rows {
		outer = append(outer, row{lo, hi})
		if inner := collect(rows); !slices.Equal(inner, want) {
			t.Errorf("Rows inside themselves: %v", inner)
		}
	}
	if !slices.Equal(outer, want) {
		t.Errorf("Rows around themselves: %v", outer)
	}
}

func TestP1_1RowsAreOfTheSetHandedIn(t *testing.T) {
	s := octet.Of(3, 5)
	rows := octet.Rows(s)
	s[0] = 0
	if got := collect(rows); !slices.Equal(got, []row{{3, 3}, {5, 5}}) {
		t.Errorf("Rows follow a set that was changed behind the call: %v", got)
	}
}

func TestP1_1Examples(t *testing.T) {
	if octet.Count(octet.Of('a', 'c', 'a')) != 2 || octet.Count(octet.Range(0, 255)) != 256 {
		t.Error("Of, Range")
	}
	l := octet.Less(octet.Range('a', 'z'), octet.Of('b'))
	if b, ok := octet.First(l); octet.Count(l) != 25 || b != 'a' || !ok {
		t.Error("Less")
	}
	if got := collect(octet.Rows(l)); !slices.Equal(got, []row{{'a', 'a'}, {'c', 'z'}}) {
		t.Errorf("Rows: %v", got)
	}
}

func TestP1_2RowsMakeTheSet(t *testing.T) {
	for _, m := range models() {
		s := m.set()
		var parts []api.Set
		behind := 0
		for lo, hi := range octet.Rows(s) {
			if lo > hi || int(lo) < behind {
				t.Fatalf("Rows(%v): %d to %d doesn't rise", m.bytes(), lo, hi)
			}
			if lo > 0 && octet.Has(s, lo-1) || hi < 255 && octet.Has(s, hi+1) {
				t.Fatalf("Rows(%v): %d to %d isn't a whole row", m.bytes(), lo, hi)
			}
			behind = int(hi) + 2
			parts = append(parts, octet.Range(lo, hi))
		}
		if octet.Join(parts...) != s {
			t.Errorf("the Join of the rows of %v isn't the set", m.bytes())
		}
	}
}

func TestP1_2Laws(t *testing.T) {
	for _, m := range models() {
		a := m.set()
		if octet.Not(octet.Not(a)) != a {
			t.Errorf("Not of Not(%v)", m.bytes())
		}
		for _, n := range models() {
			b := n.set()
			if octet.Less(a, b) != octet.Meet(a, octet.Not(b)) {
				t.Fatalf("Less(%v, %v)", m.bytes(), n.bytes())
			}
			if octet.Not(octet.Join(a, b)) != octet.Meet(octet.Not(a), octet.Not(b)) {
				t.Fatalf("Not of Join(%v, %v)", m.bytes(), n.bytes())
			}
			apart := octet.Count(a) + octet.Count(b)
			if octet.Count(octet.Join(a, b))+octet.Count(octet.Meet(a, b)) != apart {
				t.Fatalf("counts of %v and %v", m.bytes(), n.bytes())
			}
		}
	}
}

func TestP1_3NeitherOrderNorNumberOfBytes(t *testing.T) {
	for _, m := range models() {
		for _, list := range orders(m.bytes()) {
			if octet.Of(list...) != m.set() {
				t.Fatalf("Of(%v)", list)
			}
		}
	}
}

func TestP1_3NeitherOrderNorNumberOfSets(t *testing.T) {
	list := models()
	for at := range len(list) - 3 {
		var sets []api.Set
		for _, m := range list[at : at+4] {
			sets = append(sets, m.set())
		}
		join, meet := octet.Join(sets...), octet.Meet(sets...)
		for _, other := range orders(sets) {
			if octet.Join(other...) != join {
				t.Errorf("Join of %v", other)
			}
			if octet.Meet(other...) != meet {
				t.Errorf("Meet of %v", other)
			}
		}
	}
}
