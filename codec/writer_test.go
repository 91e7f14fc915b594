package codec_test

import (
	"math"
	"strings"
	"testing"

	"tinderbox/api"
	"tinderbox/codec"
)

// edges are the numbers about each length of row, and about the greatest one.
func edges() []int {
	out := []int{0, 1, 2, 5, 300, greatest - 1, greatest}
	for bits := range 62 {
		n := 1 << bits
		out = append(out, n-1, n, n+1)
	}
	return out
}

func noNumbers() []int {
	return []int{-1, -2, -127, -128, -129, -greatest, -greatest - 1, math.MinInt, math.MinInt + 1, math.MinInt32, greatest + 1, greatest + 2, greatest + 128, math.MaxInt - 1, math.MaxInt}
}

// C1

func TestNumExamples(t *testing.T) {
	for n, want := range map[int]string{
		0: "\x00", 127: "\x7f", 128: "\x80\x01", 300: "\xac\x02", greatest: "\x80\x80\x80\x80\x80\x80\x80\x80\x40",
	} {
		if s, e := onWriter(9, num(n)); s != want || e != api.OK {
			t.Errorf("Num(%d): %x, %d; not %x", n, s, e, want)
		}
	}
	for _, n := range []int{greatest + 1, -1} {
		if s, e := onWriter(9, num(n)); s != "" || e != api.ErrCodecRange {
			t.Errorf("Num(%d): %x, %d", n, s, e)
		}
	}
	if s, e := onWriter(3, text("ab")); s != "\x02ab" || e != api.OK {
		t.Errorf("Text of ab: %x, %d", s, e)
	}
}

func TestRowOfEachLengthFillsItsRoom(t *testing.T) {
	for _, n := range edges() {
		want := rowByLibrary(n)
		for _, most := range []int{len(want), len(want) + 1, 100, math.MaxInt} {
			if s, e := onWriter(most, num(n)); s != want || e != api.OK {
				t.Errorf("room %d, Num(%d): %x, %d; not %x", most, n, s, e, want)
			}
		}
		for most := -2; most < len(want); most++ {
			if s, e := onWriter(most, num(n)); s != "" || e != api.ErrCodecLong {
				t.Errorf("room %d, Num(%d): %x, %d; not ErrCodecLong", most, n, s, e)
			}
		}
	}
}

// That n is no number is named ahead of what room there is.
func TestNumOfNoNumberWhateverRoomThereIs(t *testing.T) {
	for _, n := range noNumbers() {
		for _, most := range []int{math.MinInt, -1, 0, 1, 8, 9, 10, 1000, math.MaxInt} {
			if s, e := onWriter(most, num(n)); s != "" || e != api.ErrCodecRange {
				t.Errorf("room %d, Num(%d): %x, %d; not ErrCodecRange", most, n, s, e)
			}
		}
	}
}

func TestWriterWithoutRoom(t *testing.T) {
	for _, most := range []int{0, -1, -2, math.MinInt32, math.MinInt + 1, math.MinInt} {
		if s, e := onWriter(most); s != "" || e != api.OK {
			t.Errorf("room %d, nothing laid down: %x, %d", most, s, e)
		}
		for _, c := range []call{num(0), num(greatest), text(""), text("a"), text(strings.Repeat("a", 65536))} {
			if s, e := onWriter(most, c); s != "" || e != api.ErrCodecLong {
				t.Errorf("room %d, %s: %x, %d; not ErrCodecLong", most, c, s, e)
			}
		}
	}
}

func TestTextOfEachLengthFillsItsRoom(t *testing.T) {
	for _, length := range []int{0, 1, 2, 126, 127, 128, 129, 300, 16383, 16384, 16385, 65534, 65535} {
		s := strings.Repeat("\xfft", 32768)[:length]
		want := bytesByLibrary(text(s))
		for _, most := range []int{len(want), len(want) + 1, math.MaxInt} {
			if got, e := onWriter(most, text(s)); got != want || e != api.OK {
				t.Errorf("room %d, %d bytes: %d bytes, %d", most, length, len(got), e)
			}
		}
		for _, most := range []int{len(want) - 1, length, length - 1, 0, -1} {
			if got, e := onWriter(most, text(s)); got != "" || e != api.ErrCodecLong {
				t.Errorf("room %d, %d bytes: %d bytes, %d; not ErrCodecLong", most, length, len(got), e)
			}
		}
	}
}

func TestTextOfMoreBytesThanATextHas(t *testing.T) {
	for _, length := range []int{65536, 65537, 65536 + 127, 131072, 1 << 22} {
		for _, most := range []int{-1, 0, 3, length, length + 9, math.MaxInt} {
			if got, e := onWriter(most, text(strings.Repeat("t", length))); got != "" || e != api.ErrCodecLong {
				t.Errorf("room %d, %d bytes: %d bytes, %d; not ErrCodecLong", most, length, len(got), e)
			}
		}
	}
}

func TestTextIsAnyBytes(t *testing.T) {
	for b := range 256 {
		s := string([]byte{byte(b)})
		if got, e := onWriter(2, text(s)); got != "\x01"+s || e != api.OK {
			t.Errorf("Text of byte %d: %x, %d", b, got, e)
		}
	}
	for _, s := range []string{"ä€𝄞", "\xed\xa0\x80", "a\x00b", "\x80\x80\x80"} {
		if got, e := onWriter(99, text(s)); got != string([]byte{byte(len(s))})+s || e != api.OK {
			t.Errorf("Text of %x: %x, %d", s, got, e)
		}
	}
}

func TestRowsStandBehindAllThatWasLaidDown(t *testing.T) {
	w := codec.NewWriter(12)
	want := ""
	for _, step := range []struct {
		c   call
		row string
	}{
		{num(300), "\xac\x02"}, {text("ab"), "\x02ab"}, {num(0), "\x00"}, {text(""), "\x00"}, {num(128), "\x80\x01"}, {text("xy"), "\x02xy"},
	} {
		step.c.onWriter(w)
		want += step.row
		checkWriter(t, w, want, api.OK)
	}
	w.Num(0)
	checkWriter(t, w, "", api.ErrCodecLong)
}

func TestRoomThatIsFilledToItsLastByte(t *testing.T) {
	x := numbers(1)
	for range 300 {
		calls := x.calls(1 + x.next()%12)
		want := bytesByLibrary(calls...)
		for _, most := range []int{len(want), len(want) + 1} {
			if s, e := onWriter(most, calls...); s != want || e != api.OK {
				t.Errorf("room %d, %v: %x, %d; not %x", most, calls, first(s), e, first(want))
			}
		}
		if s, e := onWriter(len(want)-1, calls...); s != "" || e != api.ErrCodecLong {
			t.Errorf("room %d, %v: %x, %d; not ErrCodecLong", len(want)-1, calls, first(s), e)
		}
		if s, e := onWriter(len(want), append(calls, num(0))...); s != "" || e != api.ErrCodecLong {
			t.Errorf("room %d, %v and one more: %x, %d; not ErrCodecLong", len(want), calls, first(s), e)
		}
	}
}

func TestManyNumbers(t *testing.T) {
	const count = 1 << 20
	w := codec.NewWriter(2 * count)
	for i := range count {
		w.Num(128 + i%16256)
	}
	s, e := w.Done()
	if len(s) != 2*count || e != api.OK {
		t.Fatalf("%d bytes, %d", len(s), e)
	}
	r := codec.NewReader(s)
	for i := range count {
		if n := r.Num(); n != 128+i%16256 {
			t.Fatalf("number %d: %d", i, n)
		}
	}
	if e := r.Done(); e != api.OK {
		t.Errorf("Done: %d", e)
	}
}

// C2

func TestFirstErrorOfAWriterExamples(t *testing.T) {
	w := codec.NewWriter(3)
	w.Num(300)
	checkWriter(t, w, "\xac\x02", api.OK)
	w.Num(300)
	checkWriter(t, w, "", api.ErrCodecLong)
	w.Num(1)
	checkWriter(t, w, "", api.ErrCodecLong)
	if s, e := onWriter(-1, text("")); s != "" || e != api.ErrCodecLong {
		t.Errorf("room -1, the empty text: %x, %d", s, e)
	}
}

func TestFirstErrorOfAWriterStays(t *testing.T) {
	long := strings.Repeat("t", 65536)
	for _, step := range []struct {
		c     call
		wrong api.Errno
	}{
		{num(-1), api.ErrCodecRange}, {num(greatest + 1), api.ErrCodecRange}, {num(greatest), api.ErrCodecLong}, {text("abcdefgh"), api.ErrCodecLong}, {text(long), api.ErrCodecLong},
	} {
		for _, ahead := range [][]call{nil, {num(5)}, {text("ab"), num(128)}} {
			w := codec.NewWriter(8)
			for _, c := range ahead {
				c.onWriter(w)
			}
			step.c.onWriter(w)
			checkWriter(t, w, "", step.wrong)
			for _, c := range []call{num(0), num(-1), text(""), text("a"), num(math.MaxInt), text(long), num(greatest), num(1)} {
				c.onWriter(w)
				checkWriter(t, w, "", step.wrong)
			}
		}
	}
}

func TestWriterIsAskedAndGoneOnWith(t *testing.T) {
	x := numbers(2)
	calls := x.calls(200)
	w := codec.NewWriter(math.MaxInt)
	var told []string
	checkWriter(t, w, "", api.OK)
	for i, c := range calls {
		c.onWriter(w)
		checkWriter(t, w, bytesByLibrary(calls[:i+1]...), api.OK)
		s, _ := w.Done()
		told = append(told, s)
	}
	w.Num(-1)
	checkWriter(t, w, "", api.ErrCodecRange)
	for i, s := range told {
		if s != bytesByLibrary(calls[:i+1]...) {
			t.Fatalf("what was told behind call %d has changed since", i)
		}
	}
}

// What is handed in is not kept, and no Writer knows of another one.

func TestTwoWritersInTurns(t *testing.T) {
	x := numbers(3)
	a, b := codec.NewWriter(1<<20), codec.NewWriter(1<<20)
	callsA, callsB := x.calls(300), x.calls(300)
	for i := range callsA {
		callsA[i].onWriter(a)
		callsB[i].onWriter(b)
		checkWriter(t, a, bytesByLibrary(callsA[:i+1]...), api.OK)
		checkWriter(t, b, bytesByLibrary(callsB[:i+1]...), api.OK)
	}
	a.Num(-1)
	b.Num(7)
	checkWriter(t, a, "", api.ErrCodecRange)
	checkWriter(t, b, bytesByLibrary(append(callsB, num(7))...), api.OK)
	full, free := codec.NewWriter(0), codec.NewWriter(1)
	full.Num(0)
	free.Num(0)
	checkWriter(t, full, "", api.ErrCodecLong)
	checkWriter(t, free, "\x00", api.OK)
}
