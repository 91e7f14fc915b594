package sum_test

import (
	"hash/adler32"
	"hash/crc32"
	"math"
	"strings"
	"sync"
	"testing"

	"tinderbox/sum"
)

// What the table said ahead of main.
var (
	firstWord = sum.Table(1)
	lastWord  = sum.Table(255)
)

// texts gives the same bytes in every run, all 256 of them likely.
type texts uint64

func (x *texts) next() uint64 {
	*x = *x*6364136223846793005 + 1442695040888963407
	return uint64(*x >> 33)
}

func (x *texts) text(length int) string {
	b := make([]byte, length)
	for i := range b {
		b[i] = byte(x.next())
	}
	return string(b)
}

func xor(a, b string) string {
	out := []byte(a)
	for i := range out {
		out[i] ^= b[i]
	}
	return string(out)
}

// flip is s with the bits of pattern laid over it from a bit on, the lowest bit of a byte being its first one.
func flip(s string, from int, pattern uint64) string {
	out := []byte(s)
	for i := 0; i < 64; i++ {
		if pattern>>i&1 == 1 {
			out[(from+i)/8] ^= 1 << ((from + i) % 8)
		}
	}
	return string(out)
}

// wordByDivision divides by the polynomial from the front on, and turns the bits round behind that.
func wordByDivision(b int) uint32 {
	var x uint64
	for i := range 8 {
		if b>>i&1 == 1 {
			x |= 1 << (39 - i)
		}
	}
	for i := 39; i >= 32; i-- {
		if x>>i&1 == 1 {
			x ^= 0x104c11db7 << (i - 32)
		}
	}
	var out uint32
	for i := range 32 {
		if x>>i&1 == 1 {
			out |= 1 << (31 - i)
		}
	}
	return out
}

// S1

func TestTableExamples(t *testing.T) {
	for _, c := range []struct {
		n    int
		want uint32
	}{
		{0, 0}, {1, 1996959894}, {255, 755167117}, {256, 0}, {-1, 755167117}, {-255, 1996959894},
	} {
		if got := sum.Table(c.n); got != c.want {
			t.Errorf("Table(%d): %d, not %d", c.n, got, c.want)
		}
	}
}

func TestTableHasTheWordOfEachByte(t *testing.T) {
	library := crc32.MakeTable(crc32.IEEE)
	for b := range 256 {
		got := sum.Table(b)
		if want := wordByDivision(b); got != want {
			t.Errorf("Table(%d): %08x, not %08x", b, got, want)
		}
		if got != library[b] {
			t.Errorf("Table(%d): %08x, the library's is %08x", b, got, library[b])
		}
	}
}

func TestTableTakesTheLowest8Bits(t *testing.T) {
	for n := -2000; n <= 2000; n++ {
		place := (n%256 + 256) % 256
		if got, want := sum.Table(n), wordByDivision(place); got != want {
			t.Errorf("Table(%d): %08x, not %08x", n, got, want)
		}
	}
	for _, c := range []struct{ n, place int }{
		{math.MaxInt, 255}, {math.MaxInt - 255, 0}, {math.MinInt, 0}, {math.MinInt + 1, 1},
		{1 << 32, 0}, {1<<32 + 7, 7}, {-1 << 32, 0}, {-1<<32 - 1, 255}, {math.MinInt32, 0}, {math.MaxInt32, 255},
	} {
		if got, want := sum.Table(c.n), wordByDivision(c.place); got != want {
			t.Errorf("Table(%d): %08x, not %08x", c.n, got, want)
		}
	}
}

// S1, P1, R3: the same at start-up, and at every time behind that.
func TestTableIsTheSameAtEveryTime(t *testing.T) {
	if firstWord != 1996959894 || lastWord != 755167117 {
		t.Errorf("at start-up Table(1) was %d, Table(255) %d", firstWord, lastWord)
	}
	var group sync.WaitGroup
	for worker := range 8 {
		group.Go(func() {
			r := texts(worker)
			for range 100 {
				n := int(r.next()) - 1<<30
				sum.CRC(r.text(20))
				sum.Adler(r.text(20))
				if got, want := sum.Table(n), wordByDivision(n&255); got != want {
					t.Errorf("Table(%d): %08x, not %08x", n, got, want)
				}
			}
		})
	}
	group.Wait()
}

// S2

func TestCRCExamples(t *testing.T) {
	for _, c := range []struct {
		s    string
		want uint32
	}{
		{"", 0}, {"a", 3904355907}, {"123456789", 3421780262},
	} {
		if got := sum.CRC(c.s); got != c.want {
			t.Errorf("CRC of %q: %d, not %d", c.s, got, c.want)
		}
	}
}

func TestAdlerExamples(t *testing.T) {
	for _, c := range []struct {
		s    string
		want uint32
	}{
		{"", 1}, {"a", 6422626}, {"Wikipedia", 300286872},
	} {
		if got := sum.Adler(c.s); got != c.want {
			t.Errorf("Adler of %q: %d, not %d", c.s, got, c.want)
		}
	}
}

func compare(t *testing.T, what, s string) {
	t.Helper()
	if got, want := sum.CRC(s), crc32.ChecksumIEEE([]byte(s)); got != want {
		t.Errorf("CRC of %q: %08x, not %08x", what, got, want)
	}
	if got, want := sum.Adler(s), adler32.Checksum([]byte(s)); got != want {
		t.Errorf("Adler of %q: %08x, not %08x", what, got, want)
	}
}

func TestChecksOfEachSingleByte(t *testing.T) {
	for b := range 256 {
		compare(t, "a single byte", string([]byte{byte(b)}))
	}
}

func TestChecksOfAllLengths(t *testing.T) {
	r := texts(1)
	for length := range 600 {
		compare(t, "any bytes", r.text(length))
	}
}

// Bytes that are no letters of UTF-8, and letters of several bytes, are bytes all the same.
func TestChecksGoByBytes(t *testing.T) {
	for _, s := range []string{"\xff\xfe\x80", "\xc3", "a\x00b", "\x00", "ä€𝄞", "�", "\xed\xa0\x80"} {
		compare(t, s, s)
	}
}

// 257 bytes of 255 take a beyond 65521 for the first time; 5552 are as many as a 32-bit b bears without a remainder.
func TestChecksOfLongTextsOfGreatBytes(t *testing.T) {
	for _, length := range []int{255, 256, 257, 5551, 5552, 5553, 65520, 65521, 65522, 65536, 1 << 20, 1<<22 + 3} {
		compare(t, "bytes of 255", strings.Repeat("\xff", length))
		compare(t, "bytes of 254", strings.Repeat("\xfe", length))
		compare(t, "noughts", strings.Repeat("\x00", length))
	}
}

// Bytes whose sum is 65520: the 1 that a begins with makes it 65521, which is no remainder.
func TestAdlerWhoseLowerHalfIsNought(t *testing.T) {
	s := strings.Repeat("\xff", 256) + "\xf0"
	if got := sum.Adler(s); got&65535 != 0 {
		t.Errorf("the lower half is %d, not 0", got&65535)
	}
	compare(t, "a sum of 65521", s)
}

// S3

func TestWordsOfBytesXORed(t *testing.T) {
	var table [256]uint32
	for b := range table {
		table[b] = sum.Table(b)
	}
	for a := range 256 {
		for b := range 256 {
			if table[a]^table[b] != table[a^b] {
				t.Fatalf("the words of %d and %d, XORed, are not the word of %d", a, b, a^b)
			}
		}
	}
}

func TestCRCOfThreeTextsXORed(t *testing.T) {
	r := texts(2)
	for length := range 200 {
		a, b, c := r.text(length), r.text(length), r.text(length)
		if sum.CRC(xor(xor(a, b), c)) != sum.CRC(a)^sum.CRC(b)^sum.CRC(c) {
			t.Fatalf("three texts of %d bytes: the CRC of their XOR is not the XOR of their CRCs", length)
		}
	}
}

func TestCRCTells32BitsSideBySide(t *testing.T) {
	r := texts(3)
	for _, length := range []int{4, 5, 9, 40} {
		s := r.text(length)
		for from := 0; from+32 <= 8*length; from++ {
			patterns := []uint64{1, 3, 1 << 31, 1<<32 - 1, 1<<31 | 1, 0xedb88320, 0x04c11db7}
			for range 50 {
				patterns = append(patterns, (r.next()<<16^r.next())&(1<<32-1)|1)
			}
			for _, p := range patterns {
				if sum.CRC(flip(s, from, p)) == sum.CRC(s) {
					t.Fatalf("%d bytes, %08x from bit %d on: the CRC is the same", length, p, from)
				}
			}
		}
	}
}

// The bound of 32 bits is sharp: the polynomial itself, 33 bits side by side, is not told.
func TestCRCDoesNotTellThePolynomial(t *testing.T) {
	r := texts(4)
	s := r.text(20)
	for from := 0; from+33 <= 160; from++ {
		if sum.CRC(flip(s, from, 1|0xedb88320<<1)) != sum.CRC(s) {
			t.Fatalf("the polynomial from bit %d on: the CRC is another one", from)
		}
	}
}

func TestAdlerTellsOneByte(t *testing.T) {
	r := texts(5)
	for _, s := range []string{"a", r.text(2), r.text(300), strings.Repeat("\xff", 257) + "\xf0"} {
		want := sum.Adler(s)
		for _, at := range []int{0, len(s) / 2, len(s) - 1} {
			for b := range 256 {
				other := s[:at] + string([]byte{byte(b)}) + s[at+1:]
				if (sum.Adler(other) == want) != (other == s) {
					t.Fatalf("%d bytes, byte %d as %d: the Adler does not tell it", len(s), at, b)
				}
			}
		}
	}
}

// together is the Adler of a text and one behind it, of both Adlers and the second one's length alone.
func together(first, second uint32, length int) uint32 {
	const m = 65521
	a1, b1 := uint64(first&65535), uint64(first>>16)
	a2, b2 := uint64(second&65535), uint64(second>>16)
	a := (a1 + a2 + m - 1) % m
	b := (b1 + b2 + uint64(length)%m*(a1+m-1)) % m
	return uint32(b<<16 | a)
}

func TestAdlerOfATextAndOneBehindIt(t *testing.T) {
	r := texts(6)
	lengths := []int{0, 1, 2, 31, 256, 257, 5553, 70000}
	for _, one := range lengths {
		for _, two := range lengths {
			s, u := r.text(one), r.text(two)
			if got, want := sum.Adler(s+u), together(sum.Adler(s), sum.Adler(u), two); got != want {
				t.Errorf("%d bytes and %d: %08x, not %08x", one, two, got, want)
			}
		}
	}
}
