package ini

import (
	"strings"

	"tinderbox/api"
	"tinderbox/glyph"
)

func written(l []api.Line) string {
	given := names{}
	var file []byte
	for _, line := range l {
		must(given.add(line.Name) && len(line.Text) <= api.MaxText, fault{e: api.ErrArg})
		file = append(file, line.Name+" = "+standing(line.Text)+"\n"...)
		// Asked at each line: a list may be much longer than any file.
		must(len(file) <= api.MaxFile, fault{e: api.ErrArg})
	}
	return string(file)
}

// standing is a text as it stands in a file: bare, if it would be read so.
func standing(text string) string {
	if text != "" && strings.Trim(text, blanks) == text && !strings.HasPrefix(text, quote) && isPlain(text) {
		return text
	}
	return glyph.Quote(text)
}
