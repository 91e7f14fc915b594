package codec

import (
	"encoding/binary"
	"errors"
	"math"
	"strings"
	"testing"

	"tinderbox/api"
)

type ownKind uint16

// checkRow holds the row of a number of any kind against the library's; of what is no number there is none.
func checkRow[N whole](t *testing.T, n N) {
	t.Helper()
	row, err := rowOf(n)
	if n < 0 || uint64(n) > 1<<62 {
		if row != nil || errnoOf(err) != api.ErrCodecRange {
			t.Errorf("%T %d: %x, %v", n, n, row, err)
		}
		return
	}
	if want := string(binary.AppendUvarint(nil, uint64(n))); string(row) != want || err != nil {
		t.Errorf("%T %d: %x, %v; not %x", n, n, row, err, want)
	}
}

// Way 3: numbers go through one function, of whatever kind they are.
func TestRowsOfAllKindsOfWholeNumbers(t *testing.T) {
	for n := range 256 {
		checkRow(t, int8(n))
		checkRow(t, uint8(n))
	}
	for n := range 65536 {
		checkRow(t, int16(n))
		checkRow(t, uint16(n))
		checkRow(t, ownKind(n))
	}
	for bits := range 64 {
		for by := range 3 {
			n := uint64(1)<<bits + uint64(by) - 1
			checkRow(t, int(n))
			checkRow(t, int32(n))
			checkRow(t, int64(n))
			checkRow(t, uint(n))
			checkRow(t, uint32(n))
			checkRow(t, n)
			checkRow(t, uintptr(n))
		}
	}
	checkRow(t, math.MinInt)
	checkRow(t, int8(math.MinInt8))
	checkRow(t, uint64(math.MaxUint64))
}

type wrapped struct{ cause error }

func (w wrapped) Error() string { return "wrapped: " + w.cause.Error() }
func (w wrapped) Unwrap() error { return w.cause }

// Way 3: what is wrong is found by errors.As, however it is wrapped.
func TestErrorsAreFoundInWhatWrapsThem(t *testing.T) {
	if e := errnoOf(nil); e != api.OK {
		t.Errorf("no error: %d", e)
	}
	for _, e := range []api.Errno{api.ErrCodecRange, api.ErrCodecLong, api.ErrCodecShort} {
		for _, err := range []error{fault{e}, wrapped{fault{e}}, wrapped{wrapped{fault{e}}}, errors.Join(errors.New("another"), fault{e})} {
			if got := errnoOf(err); got != e {
				t.Errorf("%v: %d, not %d", err, got, e)
			}
		}
	}
	if s := (fault{api.ErrCodecLong}).Error(); !strings.Contains(s, "31") {
		t.Errorf("an error that does not tell its number: %s", s)
	}
}

// LANGUAGE 8: what nobody can be told any more is not kept.
func TestNothingIsKeptBehindAnError(t *testing.T) {
	w := NewWriter(9)
	w.Text("abc")
	w.Num(-1)
	r := NewReader("\x05abc")
	r.Text(9)
	if w.laid != nil || r.left != nil {
		t.Errorf("kept: %x, %x", w.laid, r.left)
	}
}
