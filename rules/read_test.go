package rules_test

import (
	"strings"
	"testing"

	"seam/api"
	"seam/rules"
)

// drawn writes a tree down: a place by the ones of a to e that it has.
func drawn(e *rules.Expr) string {
	if e.Kind == rules.Place {
		var has strings.Builder
		for r := 'a'; r <= 'e'; r++ {
			if e.Set.Has(r) {
				has.WriteRune(r)
			}
		}
		return has.String() + "_"
	}
	var parts []string
	for _, part := range e.Parts {
		parts = append(parts, drawn(part))
	}
	name := []string{rules.Seq: "seq", rules.Or: "or", rules.Star: "star", rules.Plus: "plus", rules.Maybe: "maybe"}[e.Kind]
	return name + "(" + strings.Join(parts, " ") + ")"
}

func checkTree(t *testing.T, source string, want ...string) {
	t.Helper()
	exprs, place, e := rules.Read(source)
	if place != 0 || e != api.OK || len(exprs) != len(want) {
		t.Errorf("Read(%q) = %d rules, %d, %d, want %d", source, len(exprs), place, e, len(want))
		return
	}
	for i, expr := range exprs {
		if got := drawn(expr); got != want[i] {
			t.Errorf("rule %d of %q: %s, want %s", i, source, got, want[i])
		}
		if n := strings.Count(want[i], "_"); expr.Places != n {
			t.Errorf("rule %d of %q: %d places, want %d", i, source, expr.Places, n)
		}
	}
}

func TestTrees(t *testing.T) {
	checkTree(t, "")
	checkTree(t, ".;", "abcde_")
	checkTree(t, "[];", "_")
	checkTree(t, "[^bd];", "ace_")
	checkTree(t, "'a';", "a_")
	checkTree(t, "'abc';", "seq(a_ b_ c_)")
	checkTree(t, "'ab'*;", "star(seq(a_ b_))")
	checkTree(t, "'a'*'b'+'c'?;", "seq(star(a_) plus(b_) maybe(c_))")
	checkTree(t, "'a''b'|'c'*|[b-d];", "or(seq(a_ b_) star(c_) bcd_)")
	checkTree(t, "'a'('b'|'c')+'d';", "seq(a_ plus(or(b_ c_)) d_)")
	checkTree(t, "(('a')?)*;", "star(maybe(a_))")
	checkTree(t, "('a''b')'c';", "seq(seq(a_ b_) c_)")
	checkTree(t, "('a'|'b')|'c';", "or(or(a_ b_) c_)")
}

func TestTreesOfNames(t *testing.T) {
	checkTree(t, "$x='a'|'b';")
	checkTree(t, "$x='a'|'b';$x;$x*'c';", "or(a_ b_)", "seq(star(or(a_ b_)) c_)")
	checkTree(t, "$x='a';$y=$x'b';$y+$x?;", "seq(plus(seq(a_ b_)) maybe(a_))")
}

func TestTotalOfTooManyPlaces(t *testing.T) {
	exprs, _, e := rules.Read("$a='ab';$b=$a$a;$c=$b$b$b$b$b;$d=$c$c$c$c$c$c;$a;$b;$d;")
	if e != api.OK {
		t.Fatalf("errno %d", e)
	}
	if n := rules.Total(exprs[:2]); n != 6 {
		t.Errorf("%d places, want 6", n)
	}
	if n := rules.Total(exprs); n != api.MaxPlaces+1 {
		t.Errorf("%d places, want %d", n, api.MaxPlaces+1)
	}
}

func TestFaultsHaveNoRules(t *testing.T) {
	for _, source := range []string{".;;", ".;$x;", ".;[b-a];", ".;" + strings.Repeat("(", 41)} {
		exprs, place, e := rules.Read(source)
		if exprs != nil || place == 0 || e == api.OK {
			t.Errorf("Read(%q) = %d rules, %d, %d", source, len(exprs), place, e)
		}
	}
}
