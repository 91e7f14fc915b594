package flag_test

import (
	"fmt"
	"regexp"
	"slices"
	"strings"
	"testing"

	"tinderbox/api"
	"tinderbox/flag"
	"tinderbox/key"
)

// The chapter's words once more: patterns tell what each argument asks for, by the definitions in a list.

var (
	restForm    = regexp.MustCompile(`\A(?:-|[^-](?s:.)*)?\z`)
	helpForm    = regexp.MustCompile(`\A(?:--help|-h)\z`)
	wordForm    = regexp.MustCompile(`\A--([^=]*)(=?)((?s:.)*)\z`)
	negatedForm = regexp.MustCompile(`\Ano-(.*)\z`)
	letterForm  = regexp.MustCompile(`\A[a-z]`)
)

// ask is what a part of an argument asks for: help, or a setting with a text, or with the next argument.
type ask struct {
	help, next bool
	name, text string
}

type definitions []api.Key

func (d definitions) find(name string) (api.Key, bool) {
	at := slices.IndexFunc(d, func(k api.Key) bool { return k.Name == name })
	if at < 0 {
		return api.Key{}, false
	}
	return d[at], true
}

// asks are what an argument asks for that is neither Rest nor `--`, and what is wrong with it.
func (d definitions) asks(arg string) ([]ask, api.Errno) {
	if helpForm.MatchString(arg) {
		return []ask{{help: true}}, api.OK
	}
	if found := wordForm.FindStringSubmatch(arg); found != nil {
		return d.wordAsks(found[1], found[2] == "=", found[3])
	}
	return d.rowAsks(arg[1:])
}

func (d definitions) wordAsks(word string, equals bool, text string) ([]ask, api.Errno) {
	if k, ok := d.find(word); ok {
		if !equals && k.Kind == api.Bool {
			text = "true"
		}
		return []ask{{name: word, text: text, next: !equals && k.Kind != api.Bool}}, api.OK
	}
	if found := negatedForm.FindStringSubmatch(word); found != nil {
		if k, ok := d.find(found[1]); ok && k.Kind == api.Bool {
			if equals {
				return nil, api.ErrFlagValue
			}
			return []ask{{name: k.Name, text: "false"}}, api.OK
		}
	}
	switch word {
	case "":
		return nil, api.ErrFlagForm
	case "help":
		return nil, api.ErrFlagValue
	}
	return nil, api.ErrFlagName
}

func (d definitions) rowAsks(row string) ([]ask, api.Errno) {
	byLetter, alone := map[string]ask{"h": {help: true}}, "h"
	for _, k := range d {
		switch {
		case k.Letter == "":
		case k.Kind == api.Bool:
			byLetter[k.Letter] = ask{name: k.Name, text: "true"}
			alone += k.Letter
		default:
			byLetter[k.Letter] = ask{name: k.Name}
		}
	}
	tail := strings.TrimLeft(row, alone)
	var asks []ask
	for _, letter := range strings.Split(strings.TrimSuffix(row, tail), "") {
		asks = append(asks, byLetter[letter])
	}
	if tail == "" {
		return asks, api.OK
	}
	last, ok := byLetter[tail[:1]]
	switch {
	case !letterForm.MatchString(tail):
		return nil, api.ErrFlagForm
	case !ok:
		return nil, api.ErrFlagName
	}
	last.text, last.next = tail[1:], tail[1:] == ""
	return append(asks, last), api.OK
}

func (d definitions) parsed(args []string) (api.Args, api.Errno, int) {
	var told api.Args
	for at := 0; at < len(args); at++ {
		if args[at] == "--" {
			told.Rest = append(told.Rest, args[at+1:]...)
			break
		}
		if restForm.MatchString(args[at]) {
			told.Rest = append(told.Rest, args[at])
			continue
		}
		asks, e := d.asks(args[at])
		if e != api.OK {
			return api.Args{}, e, at
		}
		flagAt := at
		for _, asked := range asks {
			if asked.help {
				told.Help = true
				continue
			}
			if asked.next {
				at++
				if at == len(args) {
					return api.Args{}, api.ErrFlagValue, flagAt
				}
				asked.text = args[at]
			}
			told.Given = append(told.Given, given(asked.name, asked.text, flagAt))
		}
	}
	return told, api.OK, 0
}

func (d definitions) printed(l []api.Given) ([]string, api.Errno) {
	args := []string{}
	for _, g := range l {
		if _, ok := d.find(g.Name); !ok {
			return nil, api.ErrArg
		}
		args = append(args, fmt.Sprintf("--%s=%s", g.Name, g.Text))
	}
	return args, api.OK
}

func sameArgs(a, b api.Args) bool {
	return slices.Equal(a.Given, b.Given) && slices.Equal(a.Rest, b.Rest) && a.Help == b.Help
}

// checkParse holds Parse against the chapter's words, and tells what it answered.
func checkParse(t *testing.T, s *key.Set, args []string) (api.Args, api.Errno, int) {
	t.Helper()
	before, keys := slices.Clone(args), s.All()
	told, e, at := flag.Parse(s, args)
	want, wantE, wantAt := definitions(keys).parsed(before)
	if !sameArgs(told, want) || e != wantE || at != wantAt {
		t.Errorf("Parse of %.300q: %+v, %d, %d; not %+v, %d, %d", before, told, e, at, want, wantE, wantAt)
	}
	if !slices.Equal(args, before) || !slices.Equal(s.All(), keys) {
		t.Errorf("Parse wrote into what it was given: %.300q, which was %.300q; %+v", args, before, s.All())
	}
	return told, e, at
}

// checkPrint holds Print against the chapter's words, and tells what it answered.
func checkPrint(t *testing.T, s *key.Set, l []api.Given) ([]string, api.Errno) {
	t.Helper()
	before, keys := slices.Clone(l), s.All()
	args, e := flag.Print(s, l)
	if want, wantE := definitions(keys).printed(before); !slices.Equal(args, want) || e != wantE {
		t.Errorf("Print of %+v: %q, %d; not %q, %d", before, args, e, want, wantE)
	}
	if !slices.Equal(l, before) || !slices.Equal(s.All(), keys) {
		t.Errorf("Print wrote into what it was given: %+v, which was %+v; %+v", l, before, s.All())
	}
	return args, e
}

// wantTold: arguments tell just that.
func wantTold(t *testing.T, s *key.Set, args []string, want api.Args) {
	t.Helper()
	if told, e, at := checkParse(t, s, args); !sameArgs(told, want) || e != api.OK || at != 0 {
		t.Errorf("Parse of %.300q: %+v, %d, %d; not %+v", args, told, e, at, want)
	}
}

// wantGiven: arguments give just these settings, and tell nothing else.
func wantGiven(t *testing.T, s *key.Set, args []string, want ...api.Given) {
	t.Helper()
	wantTold(t, s, args, api.Args{Given: want})
}

// wantWrong: arguments are refused by that error, at that place.
func wantWrong(t *testing.T, s *key.Set, args []string, want api.Errno, wantAt int) {
	t.Helper()
	if told, e, at := checkParse(t, s, args); !sameArgs(told, api.Args{}) || e != want || at != wantAt {
		t.Errorf("Parse of %.300q: %+v, %d, %d; not %d, %d", args, told, e, at, want, wantAt)
	}
}

// words are arguments that are written with blanks between.
func words(s string) []string {
	return strings.Fields(s)
}

func given(name, text string, at int) api.Given {
	return api.Given{Name: name, Text: text, At: at}
}

// setOf is a set with definitions that are all taken.
func setOf(keys ...api.Key) *key.Set {
	s := key.New()
	for _, k := range keys {
		if e := s.Add(k); e != api.OK {
			panic(fmt.Sprintf("Add of %+v: %d", k, e))
		}
	}
	return s
}

// ownSet has a setting of each kind with a letter and one without, and some whose names look like what is none.
func ownSet() *key.Set {
	return setOf(
		api.Key{Name: "bool", Kind: api.Bool, Default: "no", Letter: "b"}, api.Key{Name: "bool2", Kind: api.Bool, Default: "yes"},
		api.Key{Name: "int", Kind: api.Int, Default: "0", Letter: "i"}, api.Key{Name: "int2", Kind: api.Int, Default: "0"},
		api.Key{Name: "size", Kind: api.Size, Default: "0", Letter: "z"}, api.Key{Name: "size2", Kind: api.Size, Default: "0"},
		api.Key{Name: "span", Kind: api.Span, Default: "0", Letter: "a"}, api.Key{Name: "span2", Kind: api.Span, Default: "0"},
		api.Key{Name: "text", Kind: api.Text, Letter: "t"}, api.Key{Name: "text2", Kind: api.Text},
		api.Key{Name: "words", Kind: api.Words, Letter: "w"}, api.Key{Name: "words2", Kind: api.Words},
		api.Key{Name: "help", Kind: api.Text}, api.Key{Name: "no", Kind: api.Bool, Default: "no", Letter: "n"}, api.Key{Name: "h", Kind: api.Bool, Default: "no"}, api.Key{Name: "true.false.no", Kind: api.Bool, Default: "no", Letter: "g"},
	)
}

// others are the names and letters of the own set's settings that are no Bools.
var others = map[string]string{"int": "i", "size": "z", "span": "a", "text": "t", "words": "w", "int2": "", "size2": "", "span2": "", "text2": "", "words2": "", "help": ""}

// manyTexts are texts that a setting may be given with.
var manyTexts = []string{"", "x", "9002", "=", "a=b", "==", "-", "--", "---", "-h", "--help", "-p", "--net.port=1", "--x", "no-", "true", " ", "\n", "\x00", "\xff", "\u00e4", strings.Repeat("x", 1000), strings.Repeat("=", 1000)}

func oneByte(b int) string {
	return string([]byte{byte(b)})
}
