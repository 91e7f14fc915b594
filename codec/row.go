package codec

import (
	"bytes"

	"tinderbox/api"
)

const (
	maxNumber = 1 << 62
	maxText   = 65535
	maxRow    = 9
	lowBits   = 7
	more      = 1 << lowBits // what is added to each byte of a row but the last one
)

// whole is every kind of whole numbers.
type whole interface {
	~int | ~int8 | ~int16 | ~int32 | ~int64 | ~uint | ~uint8 | ~uint16 | ~uint32 | ~uint64 | ~uintptr
}

// rowOf is the row of a number.
func rowOf[N whole](n N) ([]byte, error) {
	if n < 0 || uint64(n) > maxNumber {
		return nil, fault{api.ErrCodecRange}
	}
	row := make([]byte, 0, maxRow)
	rest := uint64(n)
	for rest >= more {
		row = append(row, byte(rest)|more)
		rest >>= lowBits
	}
	return append(row, byte(rest)), nil
}

// rowOfText is the row of a text's length, and the text.
func rowOfText(s string) ([]byte, error) {
	if len(s) > maxText {
		return nil, fault{api.ErrCodecLong}
	}
	row, err := rowOf(len(s))
	if err != nil {
		return nil, err
	}
	return append(row, s...), nil
}

// takeNumber is the number whose row from begins with, and what is left behind it.
func takeNumber(from []byte) (int, []byte, error) {
	length, err := rowLength(from)
	if err != nil {
		return 0, nil, err
	}
	n := said(from[:length])
	row, err := rowOf(n)
	if err != nil {
		return 0, nil, err
	}
	if !bytes.Equal(row, from[:length]) {
		// Two rows of one number would let two texts of bytes say the same.
		return 0, nil, fault{api.ErrCodecRange}
	}
	return int(n), from[length:], nil
}

// takeText is the text that from begins with, and what is left behind it.
func takeText(from []byte, most int) (string, []byte, error) {
	length, left, err := takeNumber(from)
	switch {
	case err != nil:
		return "", nil, err
	case length > min(most, maxText):
		return "", nil, fault{api.ErrCodecLong}
	case length > len(left):
		return "", nil, fault{api.ErrCodecShort}
	}
	return string(left[:length]), left[length:], nil
}

// rowLength is how many bytes there are up to the first one below more.
func rowLength(from []byte) (int, error) {
	for i, b := range from {
		if b < more {
			return i + 1, nil
		}
		if i+1 == maxRow {
			return 0, fault{api.ErrCodecRange}
		}
	}
	return 0, fault{api.ErrCodecShort}
}

// said is what the bytes of a row say, be it the shortest one or not; nine of them have 63 bits, so none is lost.
func said(row []byte) uint64 {
	var n uint64
	for i, b := range row {
		n |= uint64(b&^more) << (lowBits * i)
	}
	return n
}
