package flag

import "strings"

const (
	letterMark = "-"
	wordMark   = "--"
	equals     = "="
	offMark    = "no-"
	helpWord   = "help"
	helpLetter = "h"
)

// shape is what an argument is, by its bytes alone.
type shape int

const (
	endOfFlags shape = iota
	noFlag
	helpFlag
	wordFlag
	letterFlags
)

// shapeOf is the first shape that an argument has.
func shapeOf(arg string) shape {
	switch {
	case arg == wordMark:
		return endOfFlags
	case arg == letterMark || !strings.HasPrefix(arg, letterMark):
		return noFlag
	case arg == wordMark+helpWord || arg == letterMark+helpLetter:
		return helpFlag
	case strings.HasPrefix(arg, wordMark):
		return wordFlag
	}
	return letterFlags
}

// taker takes arguments, each call the next one: it, and its place; false, if none is left.
func taker(args []string) func() (string, int, bool) {
	next := 0
	return func() (string, int, bool) {
		if next == len(args) {
			return "", 0, false
		}
		at := next
		next++
		return args[at], at, true
	}
}
