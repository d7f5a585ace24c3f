package norm_test

import (
	"strconv"
	"strings"
	"testing"

	"joinery/api"
	"joinery/asm"
	"joinery/norm"
)

// words are the operations' words, by the document's numbers; no other number has one.
func words() map[int]string {
	return map[int]string{0: "cut", 4: "add", 5: "sub", 6: "mul", 7: "div", 8: "and", 9: "or", 10: "xor", 11: "less", 12: "same", 13: "load", 14: "store", 15: "call", 17: "zero", 18: "ret"}
}

// source answers a source's text; whatever it has to spare is told, too.
func source(x api.Src) string {
	n := strconv.FormatInt(x.N, 10)
	switch {
	case x.Kind == 0 && x.N == 0:
		return "none"
	case x.Kind == 1:
		return "r" + n
	case x.Kind == 2:
		return "#" + n
	case x.Kind == 3 && x.N == 0:
		return "def"
	case x.Kind == 4:
		return "v" + n
	}
	return "?" + strconv.Itoa(x.Kind) + "?" + n
}

// target answers the text of what a way leads to.
func target(n int) string {
	if n == -1 {
		return "-"
	}
	return strconv.Itoa(n)
}

// lines answers a form's lines, as chapter 14 writes them: two forms have the same just if they are the same. (What no form may have is told, too: an N of what is no call, an Op without a word.)
func lines(x api.Form) []string {
	l := []string{"entry " + target(x.Entry)}
	for _, node := range x.Nodes {
		s, known := words()[node.Op]
		if !known {
			s = "?" + strconv.Itoa(node.Op)
		}
		if node.Op == 15 || node.N != 0 {
			s += " " + strconv.FormatInt(node.N, 10)
		}
		for _, arg := range node.Args {
			s += " " + source(arg)
		}
		for _, out := range node.Outs {
			s += " > " + target(out)
		}
		l = append(l, s)
	}
	for _, v := range x.Vals {
		s := "value " + strconv.Itoa(v.At)
		for _, from := range v.From {
			s += " " + source(from)
		}
		l = append(l, s)
	}
	return l
}

// text answers those lines as one.
func text(x api.Form) string { return strings.Join(lines(x), "\n") }

// empty: is it the zero form?
func empty(x api.Form) bool {
	return x.Entry == 0 && len(x.Nodes) == 0 && len(x.Vals) == 0
}

// parsed answers the function of a text.
func parsed(t *testing.T, text string) []api.Ins {
	t.Helper()
	f, at, e := asm.Parse(text)
	if e != api.OK {
		t.Fatalf("%q: %d at %d", text, e, at)
	}
	return f
}

// formOf answers the form of a function that is right.
func formOf(t *testing.T, f []api.Ins) api.Form {
	t.Helper()
	x, e := norm.Of(f)
	if e != api.OK {
		t.Fatalf("%v: %d", f, e)
	}
	return x
}

// has: has a function the form of those lines?
func has(t *testing.T, f []api.Ins, want ...string) {
	t.Helper()
	if x := text(formOf(t, f)); x != strings.Join(want, "\n") {
		t.Errorf("%v: the form is\n%s\nit ought to be\n%s", f, x, strings.Join(want, "\n"))
	}
}

// hasText is that of a function's text, in which instructions are parted by commas.
func hasText(t *testing.T, function string, want ...string) {
	t.Helper()
	has(t, parsed(t, split(function)), want...)
}
