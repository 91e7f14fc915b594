package ini

import (
	"strings"

	"tinderbox/api"
	"tinderbox/glyph"
)

const (
	blanks = " \t"
	quote  = `"`
)

// reader goes through the lines of a file, from the first one on.
type reader struct {
	at    int    // the number of the line under way
	ahead string // what the section lays ahead of each name: its parts, each with a point behind it
	given names
	lines []api.Line
}

func read(s string) []api.Line {
	must(len(s) <= api.MaxFile, fault{e: api.ErrIniLong})
	r := reader{given: names{}}
	for i, line := range strings.Split(s, "\n") {
		r.at = i + 1
		r.take(strings.Trim(line, blanks))
	}
	return r.lines
}

// must gives up, if what the line under way has to be it is not.
func (r *reader) must(holds bool) {
	must(holds, fault{api.ErrIniLine, r.at})
}

func (r *reader) take(line string) {
	switch {
	case line == "" || line[0] == ';' || line[0] == '#':
	case line[0] == '[':
		r.takeSection(line[1:])
	default:
		r.takeSetting(line)
	}
}

func (r *reader) takeSection(line string) {
	parts, closed := strings.CutSuffix(line, "]")
	r.must(closed && isSection(parts))
	r.ahead = ""
	if parts != "" {
		r.ahead = parts + "."
	}
}

func (r *reader) takeSetting(line string) {
	name, text, equals := strings.Cut(line, "=")
	whole := r.ahead + strings.TrimRight(name, blanks)
	r.must(equals && r.given.add(whole))
	meant := r.meant(strings.TrimLeft(text, blanks))
	// The file is not kept, so neither are pieces of it.
	r.lines = append(r.lines, api.Line{Name: strings.Clone(whole), Text: strings.Clone(meant), At: r.at})
}

// meant is what a text of the line under way means.
func (r *reader) meant(text string) string {
	meant := text
	if strings.HasPrefix(text, quote) {
		unquoted, e := glyph.Unquote(text)
		r.must(e == api.OK)
		meant = unquoted
	} else {
		r.must(isPlain(text))
	}
	r.must(len(meant) <= api.MaxText)
	return meant
}

// isSection tells whether a text is 0, 1 or 2 parts with points between. Of how many bytes does not matter: only a whole name is bounded.
func isSection(s string) bool {
	first, second, two := strings.Cut(s, ".")
	return s == "" || isPart(first) && (!two || isPart(second))
}

func isPart(s string) bool {
	for i := range len(s) {
		class := glyph.Class(int(s[i]))
		if class != api.GlyphSmall && (class != api.GlyphDigit || i == 0) {
			return false
		}
	}
	return s != ""
}

// isPlain tells whether a text has none but those bytes that may stand in a file as they are.
func isPlain(s string) bool {
	for i := range len(s) {
		if s[i] < 32 || s[i] > 126 {
			return false
		}
	}
	return true
}
