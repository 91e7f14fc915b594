package flag

import (
	"strings"

	"tinderbox/api"
	"tinderbox/key"
)

// What a Bool is given with, where no text stands.
const (
	on  = "true"
	off = "false"
)

// reader goes through arguments, and keeps what they tell.
type reader struct {
	set  *key.Set
	take func() (arg string, at int, ok bool)
	told api.Args
}

// read takes in the argument of a place, and those behind it that it asks for.
func (r *reader) read(arg string, at int) api.Errno {
	switch shapeOf(arg) {
	case endOfFlags:
		r.leaveAll()
	case noFlag:
		r.leave(arg)
	case helpFlag:
		r.told.Help = true
	case wordFlag:
		return r.readWord(strings.TrimPrefix(arg, wordMark), at)
	case letterFlags:
		return r.readLetters(strings.TrimPrefix(arg, letterMark), at)
	}
	return api.OK
}

// leave puts an argument to those that are no flags: a copy, which keeps nothing of what was handed in.
func (r *reader) leave(arg string) {
	r.told.Rest = append(r.told.Rest, strings.Clone(arg))
}

func (r *reader) leaveAll() {
	for arg, _, ok := r.take(); ok; arg, _, ok = r.take() {
		r.leave(arg)
	}
}

// give puts a setting to those that are given: copies, as with what is left.
func (r *reader) give(k api.Key, text string, at int) {
	r.told.Given = append(r.told.Given, api.Given{Name: strings.Clone(k.Name), Text: strings.Clone(text), At: at})
}

// giveNext gives a setting with the next argument, whatever that looks like.
func (r *reader) giveNext(k api.Key, at int) api.Errno {
	text, _, ok := r.take()
	if !ok {
		return api.ErrFlagValue
	}
	r.give(k, text, at)
	return api.OK
}

// readWord reads a flag without its mark: a word, and perhaps a text.
func (r *reader) readWord(flag string, at int) api.Errno {
	word, text, hasText := strings.Cut(flag, equals)
	k, isName := r.set.Find(word)
	negated, isNegated := r.negated(word)
	switch {
	case word == "":
		return api.ErrFlagForm
	case isName && hasText:
		r.give(k, text, at)
	case isName && k.Kind == api.Bool:
		r.give(k, on, at)
	case isName:
		return r.giveNext(k, at)
	case isNegated && !hasText:
		r.give(negated, off, at)
	case isNegated || word == helpWord:
		// Help alone is a shape of its own, so a text stands behind it here.
		return api.ErrFlagValue
	default:
		return api.ErrFlagName
	}
	return api.OK
}

// negated is the Bool that a word turns off, if it does so.
func (r *reader) negated(word string) (api.Key, bool) {
	name, ok := strings.CutPrefix(word, offMark)
	if !ok {
		return api.Key{}, false
	}
	k, ok := r.set.Find(name)
	return k, ok && k.Kind == api.Bool
}

// readLetters reads a row of flags without its mark.
func (r *reader) readLetters(row string, at int) api.Errno {
	for i := range len(row) {
		letter, behind := row[i:i+1], row[i+1:]
		k, ok := r.set.Letter(letter)
		switch {
		case letter < "a" || letter > "z":
			return api.ErrFlagForm
		case letter == helpLetter:
			r.told.Help = true
		case !ok:
			return api.ErrFlagName
		case k.Kind == api.Bool:
			r.give(k, on, at)
		case behind != "":
			r.give(k, behind, at)
			return api.OK
		default:
			return r.giveNext(k, at)
		}
	}
	return api.OK
}
