package codec_test

import (
	"encoding/binary"
	"fmt"
	"math"
	"strings"
	"testing"

	"tinderbox/api"
	"tinderbox/codec"
)

const greatest = 1 << 62

// call is a Num or a Text of a Writer or a Reader.
type call struct {
	isText bool
	n      int
	s      string
}

func num(n int) call     { return call{n: n} }
func text(s string) call { return call{isText: true, s: s} }

func (c call) String() string {
	if c.isText {
		return fmt.Sprintf("Text of %d bytes", len(c.s))
	}
	return fmt.Sprintf("Num(%d)", c.n)
}

func (c call) onWriter(w *codec.Writer) {
	if c.isText {
		w.Text(c.s)
	} else {
		w.Num(c.n)
	}
}

// takenBy is the same call on a Reader, with what it answered; a text may have at most as many bytes as any text.
func (c call) takenBy(r *codec.Reader) call {
	if c.isText {
		return text(r.Text(math.MaxInt))
	}
	return num(r.Num())
}

func onWriter(most int, calls ...call) (string, api.Errno) {
	w := codec.NewWriter(most)
	for _, c := range calls {
		c.onWriter(w)
	}
	return w.Done()
}

// rowByLibrary is the row of a number, as the library writes such rows.
func rowByLibrary(n int) string {
	return string(binary.AppendUvarint(nil, uint64(n)))
}

func bytesByLibrary(calls ...call) string {
	var out strings.Builder
	for _, c := range calls {
		if c.isText {
			out.WriteString(rowByLibrary(len(c.s)) + c.s)
		} else {
			out.WriteString(rowByLibrary(c.n))
		}
	}
	return out.String()
}

// numByWords is what the chapter's words say of a Num of a Reader of s: the number, how many bytes are taken, the error.
func numByWords(s string) (int, int, api.Errno) {
	high := 0
	for high < len(s) && s[high] >= 128 {
		high++
	}
	switch {
	case high >= 9:
		return 0, 0, api.ErrCodecRange
	case high == len(s):
		return 0, 0, api.ErrCodecShort
	case high > 0 && s[high] == 0:
		return 0, 0, api.ErrCodecRange
	}
	n, taken := binary.Uvarint([]byte(s[:high+1]))
	if n > greatest {
		return 0, 0, api.ErrCodecRange
	}
	return int(n), taken, api.OK
}

// textByWords is likewise of a Text.
func textByWords(s string, most int) (string, int, api.Errno) {
	length, taken, e := numByWords(s)
	switch {
	case e != api.OK:
		return "", 0, e
	case length > most || length > 65535:
		return "", 0, api.ErrCodecLong
	case length > len(s)-taken:
		return "", 0, api.ErrCodecShort
	}
	return s[taken : taken+length], taken + length, api.OK
}

// eachText calls use with each text of at most most bytes, all of them from letters.
func eachText(letters string, most int, use func(s string)) {
	var grow func(s []byte)
	grow = func(s []byte) {
		use(string(s))
		if len(s) == most {
			return
		}
		for i := range len(letters) {
			grow(append(s, letters[i]))
		}
	}
	grow(make([]byte, 0, most))
}

// numbers gives the same numbers in every run.
type numbers uint64

func (x *numbers) next() int {
	*x = *x*6364136223846793005 + 1442695040888963407
	return int(*x >> 33)
}

// number is one of any length of row.
func (x *numbers) number() int {
	bits := x.next() % 63
	n := x.next()<<31 | x.next()
	return n & (1<<bits - 1)
}

func (x *numbers) text(length int) string {
	b := make([]byte, length)
	for i := range b {
		b[i] = byte(x.next())
	}
	return string(b)
}

func (x *numbers) calls(count int) []call {
	calls := make([]call, count)
	for i := range calls {
		if x.next()%2 == 0 {
			calls[i] = num(x.number())
		} else {
			calls[i] = text(x.text(x.next() % 200))
		}
	}
	return calls
}

func checkWriter(t *testing.T, w *codec.Writer, want string, wrong api.Errno) {
	t.Helper()
	for range 2 {
		if s, e := w.Done(); s != want || e != wrong {
			t.Errorf("Done: %d bytes %x, %d; not %d bytes %x, %d", len(s), first(s), e, len(want), first(want), wrong)
		}
	}
}

// checkFailed: behind a Reader's first error no call answers, or takes, or changes anything.
func checkFailed(t *testing.T, what string, r *codec.Reader, wrong api.Errno) {
	t.Helper()
	for range 2 {
		if e := r.Done(); e != wrong {
			t.Errorf("%q: Done: %d, not %d", what, e, wrong)
		}
		if left := r.Left(); left != 0 {
			t.Errorf("%q: Left: %d behind an error", what, left)
		}
		if n := r.Num(); n != 0 {
			t.Errorf("%q: Num: %d behind an error", what, n)
		}
		if s := r.Text(-1); s != "" {
			t.Errorf("%q: Text: %x behind an error", what, first(s))
		}
		if s := r.Text(math.MaxInt); s != "" {
			t.Errorf("%q: Text: %x behind an error", what, first(s))
		}
	}
}

// first is what of a text may be printed.
func first(s string) string { return s[:min(len(s), 40)] }
