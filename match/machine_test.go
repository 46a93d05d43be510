package match_test

import (
	"strings"
	"testing"

	"seam/api"
	"seam/match"
	"seam/rules"
)

func machine(t *testing.T, source string) *match.Machine {
	t.Helper()
	exprs, place, e := rules.Read(source)
	if e != api.OK {
		t.Fatalf("Read(%q) = %d, %d", source, place, e)
	}
	return match.New(exprs)
}

func checkLongest(t *testing.T, source, units string, length, rule int) {
	t.Helper()
	run := machine(t, source).Run()
	for range 2 {
		n, r := run.Longest([]rune(units))
		if n != length || r != rule {
			t.Errorf("by %q the longest of %q: %d, %d, want %d, %d", source, units, n, r, length, rule)
		}
	}
}

func TestLongest(t *testing.T) {
	checkLongest(t, "", "a", 0, match.NoRule)
	checkLongest(t, "'a';", "", 0, match.NoRule)
	checkLongest(t, "'a';", "b", 0, match.NoRule)
	checkLongest(t, "'a';", "aa", 1, 0)
	checkLongest(t, "'a'+;", "aab", 2, 0)
	checkLongest(t, "'a';'ab';'a'.;", "abc", 2, 1)
	checkLongest(t, "'abc';'a';", "abd", 1, 1)
	checkLongest(t, "'a'*'b'?;", "aab", 3, 0)
	checkLongest(t, "'a'*;", "b", 0, match.NoRule)
}

func TestPlacesOfNamesAreApart(t *testing.T) {
	// Were the two uses one place, the x behind the first would do for both.
	const source = "$v=[vw];$v'x'$v'y';"
	checkLongest(t, source, "vxwy", 4, 0)
	checkLongest(t, source, "vy", 0, match.NoRule)
	checkLongest(t, source, "vxwx", 0, match.NoRule)
	if n := machine(t, source).Places(); n != 4 {
		t.Errorf("%d places, want 4", n)
	}
}

func TestRunsOfOneMachine(t *testing.T) {
	m := machine(t, "[ab]+;[bc]+'d'?;")
	for _, c := range []struct {
		units        string
		length, rule int
	}{{"abc", 2, 0}, {"bcd", 3, 1}, {"b", 1, 0}, {"d", 0, match.NoRule}, {"cbd", 3, 1}, {"bbbd", 4, 1}, {"abc", 2, 0}} {
		long := m.Run()
		long.Longest([]rune(strings.Repeat("bc", 20)))
		for _, run := range []*match.Run{m.Run(), long} {
			if n, r := run.Longest([]rune(c.units)); n != c.length || r != c.rule {
				t.Errorf("the longest of %q: %d, %d, want %d, %d", c.units, n, r, c.length, c.rule)
			}
		}
	}
}

func TestUnitsStayTheCallers(t *testing.T) {
	units := []rune("aab")
	machine(t, "'a'+;").Run().Longest(units)
	if string(units) != "aab" {
		t.Errorf("the units are now %q", string(units))
	}
}
