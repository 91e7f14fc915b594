package refs_test

import (
	"slices"
	"strings"
	"testing"

	"tinderbox/api"
	"tinderbox/refs"
)

// X1: the chapter's examples

func TestNamesExamples(t *testing.T) {
	wantNames(t, "http://${net.host}:${net.port}/$$${net.host}", "net.host net.port")
	for _, s := range []string{"$", "$x", "${}", "${A}", "${a", "${a.b.c.d}", "$$$"} {
		wantFormless(t, s)
	}
	wantNames(t, "$$${a}", "a")
}

// X1: edges

func TestTextsThatSpeakOfNothing(t *testing.T) {
	for _, s := range []string{"", "x", "net.host", "localhost", "{", "}", "{}", "}{", "{a}", "a}{b", "{{a}}", " ", "\n", "\x00", "\xff", "\u00e4{\u20ac}", "%{a}", "#{a}"} {
		wantNames(t, s, "")
	}
}

// A dollar sign that another one begins with stands for nothing by itself.
func TestDollarSignsInARow(t *testing.T) {
	for count := range 40 {
		signs := strings.Repeat("$", count)
		for _, around := range []string{"", "x", "{", "}", "{}", "{a", "a}", "\xff"} {
			if count%2 == 0 {
				wantNames(t, signs+around, "")
				wantNames(t, around+signs+around, "")
			} else {
				wantFormless(t, signs+around)
				wantFormless(t, around+signs+around)
			}
		}
		if count%2 == 0 {
			wantNames(t, signs+"{a}", "")
			wantFormless(t, signs+"{a}$")
			wantFormless(t, "${b}"+signs+"$x")
		} else {
			wantNames(t, signs+"{a}", "a")
			wantNames(t, "${b}"+signs+"{a}"+signs+"{c}", "b a c")
		}
	}
}

// Behind a dollar sign nothing but another one and an opening brace may stand.
func TestEachByteBehindADollarSign(t *testing.T) {
	for b := range 256 {
		s := string([]byte{byte(b)})
		if s == "$" {
			wantNames(t, "$"+s, "")
			continue
		}
		wantFormless(t, "$"+s)
		wantFormless(t, "x$"+s+"x")
		wantFormless(t, "${a}$"+s)
		if s == "{" {
			wantNames(t, "$"+s+"a}", "a")
		} else {
			wantFormless(t, "$"+s+"a}")
			wantFormless(t, "$"+s+"{a}")
		}
	}
}

func TestEachByteInAReference(t *testing.T) {
	for b := range 256 {
		s := string([]byte{byte(b)})
		for _, form := range []string{"${_}", "${_a}", "${a_}", "${a_a}", "${a._}", "${a.b_}", "${a.b.c_}", "$_{a}", "${a}_", "_${a}"} {
			checkNames(t, strings.ReplaceAll(form, "_", s))
		}
		// All other bytes stand for themselves.
		if s != "$" {
			wantNames(t, s, "")
			wantNames(t, s+"$$"+s+"${a}"+s, "a")
		}
	}
}

func TestReferencesThatAreNone(t *testing.T) {
	for _, s := range []string{"${", "${a", "${a.", "${a.b", "${}", "${.}", "${a.}", "${.a}", "${a..b}", "${A}", "${a.B}", "${1}", "${1a}", "${a.1}", "${a.b.c.d}", "${a_b}", "${a-b}", "${ a}", "${a }", "${a b}", "${a\n}", "${$}", "${$$}", "${a$}", "${a$$}", "${{a}}", "${{a}", "${${a}}", "${a${b}}", "${\u00e4}", "${a\x00}", "${a", "${a)", "$(a)", "$a", "$}", "$}a", "x$", "${a}$", "${a}${", "${a}${b", "$$$x", "$$${", "$ {a}", "${a:-b}"} {
		wantFormless(t, s)
		wantFormless(t, "x"+s)
		wantFormless(t, "${b}"+s)
		wantFormless(t, s+" ")
		wantFormless(t, s+"$$")
	}
	// Nothing that stands behind it mends it, but what would be a part of it.
	wantNames(t, "${a"+"}", "a")
	wantNames(t, "x$"+"$", "")
}

func TestNamesOfEachSort(t *testing.T) {
	for _, name := range []string{"a", "z", "a0", "a9z", "a.b", "a.b.c", "a1.b2.c3", "net.host", "no", "true", longName, strings.Repeat("a", 32), strings.Repeat("a", 15) + "." + strings.Repeat("b", 16), strings.Repeat("a.", 2) + strings.Repeat("c", 28)} {
		for _, s := range []string{"${_}", "x${_}", "${_}x", "{${_}}", "$$${_}$$", "${_}${_}", "}${_}{", "${_}a}"} {
			wantNames(t, strings.ReplaceAll(s, "_", name), name)
		}
	}
	for _, name := range []string{longName + "x", strings.Repeat("a", 33), strings.Repeat("a", 1000), strings.Repeat("a", 16) + "." + strings.Repeat("b", 16), strings.Repeat("a.", 2) + strings.Repeat("c", 29), strings.Repeat("a.", 1000) + "a"} {
		wantFormless(t, reference(name))
		wantFormless(t, "${a}"+reference(name))
		wantNames(t, "$"+reference(name), "")
	}
}

func TestAReferenceBehindADoubledSign(t *testing.T) {
	wantNames(t, "$${a}", "")
	wantNames(t, "$$${a}", "a")
	wantNames(t, "$$$${a}", "")
	wantNames(t, "$${a}${b}", "b")
	wantNames(t, "${a}$${b}", "a")
	wantNames(t, "$${A}$${}$${", "")
}

// Each name is told once, in the order in which they first stand.
func TestNamesInTheirOrder(t *testing.T) {
	wantNames(t, "${b}${a}${b}", "b a")
	wantNames(t, "${a}${a}${a}", "a")
	wantNames(t, "${c}${b}${a}${b}${c}", "c b a")
	wantNames(t, "${a}${a.b}${a.b.c}${ab}${a}", "a a.b a.b.c ab")
	wantNames(t, "${ab}${a.b.c}${a.b}${a}", "ab a.b.c a.b a")
	wantNames(t, "x${b}x$$${a}x${b}", "b a")
	l := []string{"d", "b", "a.x", "c", "a"}
	for from := range l {
		row := slices.Concat(l[from:], l[:from])
		s := ""
		for i := range row {
			s += reference(row[i]) + reference(row[i/2])
		}
		wantNames(t, s, strings.Join(row, " "))
	}
}

// eachText calls use with each text of so many pieces at most.
func eachText(pieces []string, most int, use func(s string)) {
	use("")
	if most == 0 {
		return
	}
	for _, one := range pieces {
		eachText(pieces, most-1, func(s string) {
			use(one + s)
		})
	}
}

func TestAllShortTexts(t *testing.T) {
	eachText([]string{"$", "{", "}", "a", ".", "A"}, 6, func(s string) { checkNames(t, s) })
	eachText([]string{"$", "${", "}", "{", "a", "b.c", "$$", "${a}", "0"}, 5, func(s string) { checkNames(t, s) })
}

func TestRandomTexts(t *testing.T) {
	r := numbers(1)
	pieces := []string{"$$", "$$", "${a}", "${b.c}", reference(longName), "x", "\xff", "\n", "{", "}", "${a1.b2.c3}", "A"}
	for n := range 20000 {
		s := ""
		for range r.next() % 12 {
			s += r.pick(pieces)
		}
		// Of each two texts one has something in it that is nearly always wrong.
		if n%2 == 0 {
			at := r.next() % (len(s) + 1)
			s = s[:at] + r.pick([]string{"$", "${", "}", "$x", "${A}", "."}) + s[at:]
		}
		checkNames(t, s)
	}
}

// Long texts are gone through once: what is looked for is never looked for again.
func TestNamesOfLongTexts(t *testing.T) {
	const count = 300000
	wantNames(t, strings.Repeat("$$", count), "")
	wantNames(t, strings.Repeat("x{}", count)+"${a}", "a")
	wantNames(t, strings.Repeat("${b}${a}", count), "b a")
	wantFormless(t, strings.Repeat("${a}", count)+"$")
	wantFormless(t, strings.Repeat("$$", count)+"$")
	wantFormless(t, strings.Repeat("${", count))
	wantFormless(t, "${"+strings.Repeat("a", count)+"}")
	wantFormless(t, reference("a"+strings.Repeat(".a", count)))
	wantNames(t, strings.Repeat("$$", count)+"${a}"+strings.Repeat("}", count), "a")

	var b strings.Builder
	var want []string
	for n := range count {
		name := "n" + string([]byte{'a' + byte(n%26), 'a' + byte(n/26%26), 'a' + byte(n/676%26), 'a' + byte(n/17576)})
		want = append(want, name)
		b.WriteString(reference(name))
	}
	if names, e := refs.Names(b.String() + b.String()); !slices.Equal(names, want) || e != api.OK {
		t.Errorf("Names of many: %d of them, %d", len(names), e)
	}
}
