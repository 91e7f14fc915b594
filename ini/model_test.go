package ini_test

import (
	"fmt"
	"regexp"
	"slices"
	"strconv"
	"strings"
	"testing"

	"tinderbox/api"
	"tinderbox/ini"
)

// The chapter's words once more, by patterns.

var (
	silentForm  = regexp.MustCompile(`\A[ \t]*(?:[;#](?s:.)*)?\z`)
	sectionForm = regexp.MustCompile(`\A[ \t]*\[((?:[a-z][a-z0-9]*(?:\.[a-z][a-z0-9]*)?)?)\][ \t]*\z`)
	settingForm = regexp.MustCompile(`\A[ \t]*([a-z][a-z0-9]*(?:\.[a-z][a-z0-9]*){0,2})[ \t]*=[ \t]*((?s:.)*?)[ \t]*\z`)
	nameForm    = regexp.MustCompile(`\A[a-z][a-z0-9]*(?:\.[a-z][a-z0-9]*){0,2}\z`)
	readForm    = regexp.MustCompile(`\A(?:[ !#-~][ -~]*)?\z`)
	quotedForm  = regexp.MustCompile(`\A"(?:[ !#-\[\]-~]|\\["\\]|\\x(?:[01][0-9a-f]|7f|[89a-f][0-9a-f]))*"\z`)
	bareForm    = regexp.MustCompile(`\A[!#-~](?:[ -~]*[!-~])?\z`)
)

func isName(s string) bool {
	return len(s) <= 32 && nameForm.MatchString(s)
}

// meantByWords is what a text of a file means; false, if it is none.
func meantByWords(text string) (string, bool) {
	if quotedForm.MatchString(text) {
		meant, err := strconv.Unquote(text)
		return meant, err == nil && len(meant) <= 200
	}
	return text, readForm.MatchString(text) && len(text) <= 200
}

func parsedByWords(s string) ([]api.Line, api.Errno, int) {
	if len(s) > 8000 {
		return nil, api.ErrIniLong, 0
	}
	var lines []api.Line
	ahead := ""
	for i, line := range strings.Split(s, "\n") {
		if silentForm.MatchString(line) {
			continue
		}
		if found := sectionForm.FindStringSubmatch(line); found != nil {
			ahead = strings.TrimPrefix(found[1]+".", ".")
			continue
		}
		found := settingForm.FindStringSubmatch(line)
		if found == nil {
			return nil, api.ErrIniLine, i + 1
		}
		meant, ok := meantByWords(found[2])
		name := ahead + found[1]
		if !ok || !isName(name) || slices.ContainsFunc(lines, func(l api.Line) bool { return l.Name == name }) {
			return nil, api.ErrIniLine, i + 1
		}
		lines = append(lines, api.Line{Name: name, Text: meant, At: i + 1})
	}
	return lines, api.OK, 0
}

func quotedByWords(s string) string {
	var out strings.Builder
	for _, b := range []byte(s) {
		switch {
		case b == '"' || b == '\\':
			out.WriteString("\\" + string([]byte{b}))
		case b >= 32 && b <= 126:
			out.WriteByte(b)
		default:
			fmt.Fprintf(&out, "\\x%02x", b)
		}
	}
	return `"` + out.String() + `"`
}

func printedByWords(l []api.Line) (string, api.Errno) {
	var out strings.Builder
	seen := map[string]bool{}
	for _, line := range l {
		if !isName(line.Name) || seen[line.Name] || len(line.Text) > 200 {
			return "", api.ErrArg
		}
		seen[line.Name] = true
		text := line.Text
		if !bareForm.MatchString(text) {
			text = quotedByWords(text)
		}
		out.WriteString(line.Name + " = " + text + "\n")
	}
	if out.Len() > 8000 {
		return "", api.ErrArg
	}
	return out.String(), api.OK
}

// checkParse holds Parse against the chapter's words, and tells what it answered.
func checkParse(t *testing.T, s string) ([]api.Line, api.Errno) {
	t.Helper()
	lines, e, at := ini.Parse(s)
	wantLines, want, wantAt := parsedByWords(s)
	if !slices.Equal(lines, wantLines) || e != want || at != wantAt {
		t.Errorf("Parse of %.300q: %+v, %d, %d; not %+v, %d, %d", s, lines, e, at, wantLines, want, wantAt)
	}
	return lines, e
}

// checkPrint holds Print against the chapter's words, and tells what it answered.
func checkPrint(t *testing.T, l []api.Line) (string, api.Errno) {
	t.Helper()
	before := slices.Clone(l)
	s, e := ini.Print(l)
	if want, wantE := printedByWords(l); s != want || e != wantE {
		t.Errorf("Print of %+v: %q, %d; not %q, %d", l, s, e, want, wantE)
	}
	if !slices.Equal(l, before) {
		t.Errorf("Print wrote into its list: %+v, which was %+v", l, before)
	}
	return s, e
}

// wantLines: a file has just these lines.
func wantLines(t *testing.T, s string, want ...api.Line) {
	t.Helper()
	if lines, e := checkParse(t, s); !slices.Equal(lines, want) || e != api.OK {
		t.Errorf("Parse of %.300q: %+v, %d; not %+v", s, lines, e, want)
	}
}

// wantWrong: the first wrong line of a file is that one.
func wantWrong(t *testing.T, s string, want int) {
	t.Helper()
	checkParse(t, s)
	if lines, e, at := ini.Parse(s); len(lines) != 0 || e != api.ErrIniLine || at != want {
		t.Errorf("Parse of %.300q: %+v, %d, %d; not line %d", s, lines, e, at, want)
	}
}

// line is one of a list to be printed, or of a file.
func line(name, text string, at int) api.Line {
	return api.Line{Name: name, Text: text, At: at}
}

// eachText calls use with each text of so many bytes at most.
func eachText(letters string, most int, use func(s string)) {
	var grow func(s []byte)
	grow = func(s []byte) {
		use(string(s))
		if len(s) == most {
			return
		}
		for i := range len(letters) {
			grow(append(s, letters[i]))
		}
	}
	grow(nil)
}

func oneByte(b int) string {
	return string([]byte{byte(b)})
}
