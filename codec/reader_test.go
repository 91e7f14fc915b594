package codec_test

import (
	"math"
	"strings"
	"testing"

	"tinderbox/api"
	"tinderbox/codec"
)

// checkNum holds a Num of a Reader of s against the chapter's words.
func checkNum(t *testing.T, s string) {
	t.Helper()
	r := codec.NewReader(s)
	got := r.Num()
	n, taken, e := numByWords(s)
	checkTaken(t, r, s, taken, e)
	if got != n {
		t.Errorf("%x: Num: %d, not %d", first(s), got, n)
	}
}

// checkText is likewise of a Text.
func checkText(t *testing.T, s string, most int) {
	t.Helper()
	r := codec.NewReader(s)
	got := r.Text(most)
	u, taken, e := textByWords(s, most)
	checkTaken(t, r, s, taken, e)
	if got != u {
		t.Errorf("%x: Text(%d): %d bytes %x, not %d bytes %x", first(s), most, len(got), first(got), len(u), first(u))
	}
}

func checkTaken(t *testing.T, r *codec.Reader, s string, taken int, wrong api.Errno) {
	t.Helper()
	if wrong != api.OK {
		checkFailed(t, first(s), r, wrong)
		return
	}
	done := api.OK
	if taken < len(s) {
		done = api.ErrCodecMore
	}
	for range 2 {
		if r.Left() != len(s)-taken || r.Done() != done {
			t.Errorf("%x: Left: %d, Done: %d; not %d, %d", first(s), r.Left(), r.Done(), len(s)-taken, done)
		}
	}
}

// C3: Num

func TestNumberOfEachRow(t *testing.T) {
	for _, n := range edges() {
		r := codec.NewReader(rowByLibrary(n))
		if got := r.Num(); got != n || r.Left() != 0 || r.Done() != api.OK {
			t.Errorf("the row of %d: %d, %d left, %d", n, got, r.Left(), r.Done())
		}
	}
}

func TestNumTakesOneRowAlone(t *testing.T) {
	for _, n := range edges() {
		for _, behind := range []string{"\x00", "\x7f", "\x80", "\xff\xff"} {
			s := rowByLibrary(n) + behind
			r := codec.NewReader(s)
			if got := r.Num(); got != n || r.Left() != len(behind) || r.Done() != api.ErrCodecMore {
				t.Errorf("%x: %d, %d left, %d; not %d", s, got, r.Left(), r.Done(), n)
			}
		}
	}
}

func TestRowsThatAreCut(t *testing.T) {
	for _, n := range edges() {
		row := rowByLibrary(n)
		for length := range len(row) {
			r := codec.NewReader(row[:length])
			if got := r.Num(); got != 0 {
				t.Errorf("%x: %d", row[:length], got)
			}
			checkFailed(t, row[:length], r, api.ErrCodecShort)
		}
	}
}

func TestRowsThatAreNotTheShortest(t *testing.T) {
	for _, n := range edges() {
		row := []byte(rowByLibrary(n))
		for len(row) < 10 {
			row[len(row)-1] |= 128
			row = append(row, 0)
			s := string(row)
			for _, r := range []*codec.Reader{codec.NewReader(s), codec.NewReader(s + "\x05")} {
				if got := r.Num(); got != 0 {
					t.Errorf("%x: %d", s, got)
				}
				checkFailed(t, s, r, api.ErrCodecRange)
			}
		}
	}
}

func TestRowsOfEightAndNineHighBytes(t *testing.T) {
	for _, b := range []string{"\x80", "\x81", "\xc0", "\xff"} {
		for high := range 9 {
			s := strings.Repeat(b, high)
			r := codec.NewReader(s)
			r.Num()
			checkFailed(t, s, r, api.ErrCodecShort)
		}
		for high := 9; high <= 20; high++ {
			for _, last := range []string{"", "\x00", "\x01", "\x7f"} {
				s := strings.Repeat(b, high) + last
				r := codec.NewReader(s)
				r.Num()
				checkFailed(t, s, r, api.ErrCodecRange)
			}
		}
	}
}

func TestRowsThatSayMoreThanTheGreatestNumber(t *testing.T) {
	for _, n := range []uint64{greatest + 1, greatest + 2, greatest + 127, greatest + 128, greatest + 1<<55, greatest + 1<<56, 1<<63 - 1, 1<<63 - 1<<56} {
		s := rowByLibrary(int(n))
		r := codec.NewReader(s)
		if got := r.Num(); len(s) != 9 || got != 0 {
			t.Errorf("%x: %d", s, got)
		}
		checkFailed(t, s, r, api.ErrCodecRange)
	}
}

func TestNumOfAnyThreeBytes(t *testing.T) {
	checkNum(t, "")
	for a := range 256 {
		checkNum(t, string([]byte{byte(a)}))
		for b := range 256 {
			checkNum(t, string([]byte{byte(a), byte(b)}))
			for _, c := range []byte{0, 1, 127, 128, 255} {
				checkNum(t, string([]byte{byte(a), byte(b), c}))
			}
		}
	}
}

func TestNumOfLongRows(t *testing.T) {
	for _, high := range []string{"\x80", "\xff", "\x81\x80\x80\x80\x80\x80\x80\x80\x80", "\x80\x80\x80\x80\x80\x80\x80\x81\x80", "\x80\x80\x80\x80\xc0"} {
		for length := range 12 {
			s := strings.Repeat(high, 12)[:length]
			for b := range 256 {
				checkNum(t, s+string([]byte{byte(b)}))
				checkNum(t, s+string([]byte{byte(b)})+"\x00")
			}
		}
	}
	eachText("\x00\x01\x3f\x40\x41\x7f\x80\xff", 2, func(s string) {
		for length := 5; length < 11; length++ {
			checkNum(t, strings.Repeat("\x80", length)+s)
			checkNum(t, strings.Repeat("\xff", length)+s)
		}
	})
}

// C3: Text

func TestReaderExamples(t *testing.T) {
	for _, c := range []struct {
		s     string
		wrong api.Errno
		take  func(r *codec.Reader) bool
	}{
		{"\x80\x00", api.ErrCodecRange, func(r *codec.Reader) bool { return r.Num() == 0 }},
		{"\x80", api.ErrCodecShort, func(r *codec.Reader) bool { return r.Num() == 0 }},
		{strings.Repeat("\xff", 9), api.ErrCodecRange, func(r *codec.Reader) bool { return r.Num() == 0 }},
		{"\x03a", api.ErrCodecShort, func(r *codec.Reader) bool { return r.Text(3) == "" }},
		{"\x03a", api.ErrCodecLong, func(r *codec.Reader) bool { return r.Text(2) == "" }},
	} {
		r := codec.NewReader(c.s)
		if !c.take(r) {
			t.Errorf("%x: an answer beside an error", c.s)
		}
		checkFailed(t, c.s, r, c.wrong)
	}
}

func TestTextOfEachLength(t *testing.T) {
	for _, length := range []int{0, 1, 2, 126, 127, 128, 129, 300, 16383, 16384, 65534, 65535} {
		s := strings.Repeat("t\xff", 32768)[:length]
		row := rowByLibrary(length) + s
		for _, most := range []int{length, length + 1, 65535, 65536, 1 << 20, math.MaxInt} {
			checkText(t, row, most)
			checkText(t, row+"z", most)
		}
		for _, most := range []int{length - 1, -1, math.MinInt, math.MinInt + 1} {
			r := codec.NewReader(row)
			if got := r.Text(most); got != "" {
				t.Errorf("%d bytes, at most %d: %d bytes", length, most, len(got))
			}
			checkFailed(t, "at most less", r, api.ErrCodecLong)
		}
	}
}

func TestTextIsCutAnywhere(t *testing.T) {
	for _, length := range []int{1, 2, 127, 128, 300, 65535} {
		row := bytesByLibrary(text(strings.Repeat("t", length)))
		for cut := 1; cut <= min(len(row), 200); cut++ {
			s := row[:len(row)-cut]
			r := codec.NewReader(s)
			if got := r.Text(length); got != "" {
				t.Errorf("%d bytes, %d missing: %d bytes", length, cut, len(got))
			}
			checkFailed(t, "a text that is cut", r, api.ErrCodecShort)
		}
	}
}

// A length that may not be is named ahead of bytes that are missing, and whatever is wrong with its row ahead of both.
func TestErrorsOfATextInTheirOrder(t *testing.T) {
	for _, c := range []struct {
		s     string
		most  int
		wrong api.Errno
	}{
		{"", -1, api.ErrCodecShort}, {"\x80", -1, api.ErrCodecShort}, {"\x80\x00", -1, api.ErrCodecRange},
		{strings.Repeat("\xff", 9), 0, api.ErrCodecRange}, {"\x81\x80\x80\x80\x80\x80\x80\x80\x40", 0, api.ErrCodecRange},
		{"\x00", -1, api.ErrCodecLong}, {"\x01", 0, api.ErrCodecLong}, {"\x01", 1, api.ErrCodecShort},
		{"\x80\x80\x04", math.MaxInt, api.ErrCodecLong}, {"\xff\xff\x03", math.MaxInt, api.ErrCodecShort}, {"\xff\xff\x03", 65534, api.ErrCodecLong},
		{"\x80\x80\x04" + strings.Repeat("t", 65536), math.MaxInt, api.ErrCodecLong}, {"\x80\x80\x04" + strings.Repeat("t", 65536), 65536, api.ErrCodecLong},
		{rowByLibrary(greatest), math.MaxInt, api.ErrCodecLong}, {rowByLibrary(1<<32) + "abc", math.MaxInt, api.ErrCodecLong}, {rowByLibrary(1<<32+1) + "abc", 3, api.ErrCodecLong},
	} {
		r := codec.NewReader(c.s)
		if got := r.Text(c.most); got != "" {
			t.Errorf("%x: Text(%d): %x", first(c.s), c.most, first(got))
		}
		checkFailed(t, first(c.s), r, c.wrong)
	}
}

func TestTextOfShortTexts(t *testing.T) {
	eachText("\x00\x01\x02\x03\x80\x81a", 5, func(s string) {
		for most := -1; most <= 4; most++ {
			checkText(t, s, most)
		}
	})
	for a := range 256 {
		for b := range 256 {
			s := string([]byte{byte(a), byte(b)})
			checkText(t, s, math.MaxInt)
			checkText(t, s+strings.Repeat("x", 300), 299)
		}
	}
}

// C4

func TestBytesLeftExample(t *testing.T) {
	r := codec.NewReader("\x05\x07")
	if n := r.Num(); n != 5 || r.Left() != 1 || r.Done() != api.ErrCodecMore {
		t.Errorf("%d, %d left, %d", n, r.Left(), r.Done())
	}
	if n := r.Num(); n != 7 || r.Left() != 0 || r.Done() != api.OK {
		t.Errorf("%d, %d left, %d", n, r.Left(), r.Done())
	}
}

func TestLeftAndDoneOnTheWay(t *testing.T) {
	x := numbers(4)
	calls := x.calls(200)
	left := bytesByLibrary(calls...)
	r := codec.NewReader(left)
	for _, c := range calls {
		for range 3 {
			if r.Left() != len(left) || r.Done() != api.ErrCodecMore {
				t.Fatalf("Left: %d, Done: %d; not %d, ErrCodecMore", r.Left(), r.Done(), len(left))
			}
		}
		if got := c.takenBy(r); got != c {
			t.Fatalf("%s, not %s", got, c)
		}
		left = left[len(bytesByLibrary(c)):]
	}
	if r.Left() != 0 || r.Done() != api.OK {
		t.Errorf("Left: %d, Done: %d", r.Left(), r.Done())
	}
}

func TestReaderOfNothing(t *testing.T) {
	for _, c := range []call{num(0), text("")} {
		r := codec.NewReader("")
		if r.Left() != 0 || r.Done() != api.OK {
			t.Errorf("Left: %d, Done: %d", r.Left(), r.Done())
		}
		if got := c.takenBy(r); got != c {
			t.Errorf("%s of nothing", got)
		}
		checkFailed(t, "nothing", r, api.ErrCodecShort)
	}
}

// An error behind a call that was right; other errors, and right rows, behind that.
func TestFirstErrorOfAReaderStays(t *testing.T) {
	for _, c := range []struct {
		s     string
		wrong api.Errno
	}{
		{"\x80\x00\x05\x05", api.ErrCodecRange}, {"\x80", api.ErrCodecShort}, {"\x05abcde\x05\x05", api.ErrCodecLong}, {"\x04ab", api.ErrCodecShort},
	} {
		r := codec.NewReader("\x09" + c.s)
		if n := r.Num(); n != 9 || r.Left() != len(c.s) || r.Done() != api.ErrCodecMore {
			t.Errorf("%x: %d, %d left, %d", c.s, n, r.Left(), r.Done())
		}
		if s := r.Text(4); s != "" {
			t.Errorf("%x: %x", c.s, s)
		}
		checkFailed(t, c.s, r, c.wrong)
	}
}

// No Reader knows of another one.
func TestTwoReadersInTurns(t *testing.T) {
	x := numbers(5)
	calls := x.calls(300)
	s := bytesByLibrary(calls...)
	a, b, wrong := codec.NewReader(s), codec.NewReader(s), codec.NewReader("\x80")
	for i, c := range calls {
		if got := c.takenBy(a); got != c {
			t.Fatalf("the first one: %s, not %s", got, c)
		}
		wrong.Num()
		if i%2 == 1 {
			behind := calls[i/2]
			if got := behind.takenBy(b); got != behind {
				t.Fatalf("the second one: %s, not %s", got, behind)
			}
		}
	}
	if a.Done() != api.OK || b.Left() != len(bytesByLibrary(calls[150:]...)) || b.Done() != api.ErrCodecMore || wrong.Done() != api.ErrCodecShort {
		t.Errorf("Done: %d, %d, %d; Left: %d", a.Done(), b.Done(), wrong.Done(), b.Left())
	}
}
