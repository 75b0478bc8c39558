package matches

import (
	"slices"
	"strings"
	"testing"

	"linework/api"
	"linework/patterns"
)

func look(t *testing.T, pattern, text string) *Table {
	t.Helper()
	tree, at, ok := patterns.Parse(pattern)
	if !ok {
		t.Fatalf("%q is no pattern: %d", pattern, at)
	}
	return Look(tree, text)
}

func TestFirstFromAPlaceOn(t *testing.T) {
	for _, c := range []struct {
		pattern, text string
		place         int
		want          []api.Span
	}{
		{"o+", "foobo", 0, []api.Span{{From: 1, To: 3}}},
		{"o+", "foobo", 1, []api.Span{{From: 1, To: 3}}},
		{"o+", "foobo", 2, []api.Span{{From: 2, To: 3}}},
		{"o+", "foobo", 3, []api.Span{{From: 4, To: 5}}},
		{"o+", "foobo", 5, nil},
		{"o*", "foo", 3, []api.Span{{From: 3, To: 3}}},
		{"o*", "foo", 4, nil},
		// The text begins where it does, wherever one looks from.
		{"^o", "oo", 0, []api.Span{{From: 0, To: 1}}},
		{"^o", "oo", 1, nil},
		{"(^|b)(.)", "abc", 1, []api.Span{{From: 1, To: 3}, {From: 1, To: 2}, {From: 2, To: 3}}},
		{"$", "ab", 1, []api.Span{{From: 2, To: 2}}},
		{"(a)|b", "ab", 1, []api.Span{{From: 1, To: 2}, {From: -1, To: -1}}},
	} {
		if got := look(t, c.pattern, c.text).First(c.place); !slices.Equal(got, c.want) || (got == nil) != (c.want == nil) {
			t.Errorf("%q in %q from %d: %v, want %v", c.pattern, c.text, c.place, got, c.want)
		}
	}
}

func TestAllPlacesOfTheLongestText(t *testing.T) {
	table := look(t, "(a)", strings.Repeat("a", api.MaxSubject))
	for from := range api.MaxSubject {
		want := []api.Span{{From: from, To: from + 1}, {From: from, To: from + 1}}
		if got := table.First(from); !slices.Equal(got, want) {
			t.Errorf("from %d: %v", from, got)
		}
	}
}

func TestFirstIsNewEachTime(t *testing.T) {
	table := look(t, "(a)", "a")
	first := table.First(0)
	first[0], first[1] = api.Span{From: 7, To: 7}, api.Span{From: 7, To: 7}
	if got := table.First(0); !slices.Equal(got, []api.Span{{From: 0, To: 1}, {From: 0, To: 1}}) {
		t.Errorf("the second time: %v", got)
	}
}

func TestPlaces(t *testing.T) {
	if _, ok := (places{}).greatest(); ok {
		t.Error("no place, but a greatest one")
	}
	for low := range api.MaxSubject + 1 {
		for high := low; high <= api.MaxSubject; high++ {
			both := only(low).with(only(high))
			if got, ok := both.greatest(); !ok || got != high {
				t.Errorf("%d and %d: greatest %d, %v", low, high, got, ok)
			}
			for place := range api.MaxSubject + 1 {
				if both.has(place) != (place == low || place == high) {
					t.Errorf("%d and %d: has %d", low, high, place)
				}
			}
		}
	}
}
