package field_test

import (
	"bytes"
	"encoding/binary"
	"math"
	"sync"
	"testing"

	"swatch/api"
	"swatch/field"
)

const most = 1<<31 - 1

// checkBytes holds an answer of bytes against what is wanted; beside an error nothing may stand (R1).
func checkBytes(t *testing.T, name string, got []byte, e api.Errno, want []byte, wantE api.Errno) {
	t.Helper()
	if e != wantE || !bytes.Equal(got, want) {
		t.Errorf("%s: %v, %v; want %v, %v", name, got, e, want, wantE)
	}
}

func checkNumber(t *testing.T, name string, got int, e api.Errno, want int, wantE api.Errno) {
	t.Helper()
	if e != wantE || got != want {
		t.Errorf("%s: %v, %v; want %v, %v", name, got, e, want, wantE)
	}
}

// P1.1
func TestGet(t *testing.T) {
	b := []byte{1, 2, 3, 254, 255}
	for _, c := range []struct {
		name      string
		b         []byte
		at, bytes int
		big       bool
		n         int
		e         api.Errno
	}{
		{"document, little", []byte{1, 2}, 0, 2, false, 513, api.OK},
		{"document, big", []byte{1, 2}, 0, 2, true, 258, api.OK},
		{"1 byte, little", b, 3, 1, false, 254, api.OK},
		{"1 byte, big", b, 3, 1, true, 254, api.OK},
		{"3 bytes, little", b, 1, 3, false, 0xfe0302, api.OK},
		{"3 bytes, big", b, 1, 3, true, 0x0203fe, api.OK},
		{"4 bytes up to the end, little", b, 1, 4, false, 0xfffe0302, api.OK},
		{"4 bytes up to the end, big", b, 1, 4, true, 0x0203feff, api.OK},
		{"last byte", b, 4, 1, false, 255, api.OK},
		{"greatest of 4 bytes", []byte{255, 255, 255, 255}, 0, 4, false, 1<<32 - 1, api.OK},
		{"greatest of 31 bits", []byte{127, 255, 255, 255}, 0, 4, true, most, api.OK},
		{"lowest of 4 bytes", make([]byte, 4), 0, 4, true, 0, api.OK},

		{"offset at the end", b, 5, 1, false, 0, api.ErrShort},
		{"offset past the end", b, 6, 1, false, 0, api.ErrShort},
		{"one byte too few", b, 2, 4, true, 0, api.ErrShort},
		{"offset of 2^31 - 1", b, most, 4, false, 0, api.ErrShort},
		{"greatest offset", b, math.MaxInt, 4, false, 0, api.ErrShort},
		{"nil", nil, 0, 1, false, 0, api.ErrShort},
		{"empty", []byte{}, 0, 1, false, 0, api.ErrShort},

		{"0 bytes", b, 0, 0, false, 0, api.ErrArg},
		{"5 bytes", b, 0, 5, false, 0, api.ErrArg},
		{"negative bytes", b, 0, -1, true, 0, api.ErrArg},
		{"least bytes", b, 0, math.MinInt, false, 0, api.ErrArg},
		{"greatest bytes", b, 0, math.MaxInt, false, 0, api.ErrArg},
		{"negative offset", b, -1, 1, false, 0, api.ErrArg},
		{"least offset", b, math.MinInt, 4, false, 0, api.ErrArg},
		{"ErrArg is ahead of ErrShort (bytes)", nil, 9, 5, false, 0, api.ErrArg},
		{"ErrArg is ahead of ErrShort (offset)", nil, -1, 1, false, 0, api.ErrArg},
	} {
		n, e := field.Get(c.b, c.at, c.bytes, c.big)
		checkNumber(t, c.name, n, e, c.n, c.e)
	}
}

// P1.1
func TestPut(t *testing.T) {
	b := []byte{1, 2, 3, 4, 5}
	for _, c := range []struct {
		name      string
		b         []byte
		at, bytes int
		big       bool
		n         int
		want      []byte
		e         api.Errno
	}{
		{"2 bytes, little", b, 1, 2, false, 0x0a0b, []byte{1, 0x0b, 0x0a, 4, 5}, api.OK},
		{"2 bytes, big", b, 1, 2, true, 0x0a0b, []byte{1, 0x0a, 0x0b, 4, 5}, api.OK},
		{"3 bytes, big", b, 2, 3, true, 0x0a0b0c, []byte{1, 2, 0x0a, 0x0b, 0x0c}, api.OK},
		{"last byte", b, 4, 1, false, 255, []byte{1, 2, 3, 4, 255}, api.OK},
		{"0", b, 0, 4, false, 0, []byte{0, 0, 0, 0, 5}, api.OK},
		{"2^31 - 1", b, 0, 4, true, most, []byte{127, 255, 255, 255, 5}, api.OK},
		{"greatest of 4 bytes", b, 1, 4, false, 1<<32 - 1, []byte{1, 255, 255, 255, 255}, api.OK},

		{"too great for 1 byte", b, 0, 1, false, 256, nil, api.ErrOver},
		{"too great for 2 bytes", b, 0, 2, true, 1 << 16, nil, api.ErrOver},
		{"too great for 3 bytes", b, 0, 3, false, 1 << 24, nil, api.ErrOver},
		{"too great for 4 bytes", b, 0, 4, true, 1 << 32, nil, api.ErrOver},
		{"greatest number", b, 0, 4, false, math.MaxInt, nil, api.ErrOver},
		{"negative number", b, 0, 4, false, -1, nil, api.ErrOver},
		{"least number", b, 0, 1, true, math.MinInt, nil, api.ErrOver},

		{"offset at the end", b, 5, 1, false, 0, nil, api.ErrShort},
		{"offset past the end", b, 6, 1, false, 0, nil, api.ErrShort},
		{"one byte too few", b, 2, 4, false, 0, nil, api.ErrShort},
		{"greatest offset", b, math.MaxInt, 4, false, 0, nil, api.ErrShort},
		{"nil", nil, 0, 1, false, 0, nil, api.ErrShort},
		{"0 bytes", b, 0, 0, false, 0, nil, api.ErrArg},
		{"5 bytes", b, 0, 5, false, 0, nil, api.ErrArg},
		{"negative bytes", b, 0, -1, false, 0, nil, api.ErrArg},
		{"negative offset", b, -1, 1, false, 0, nil, api.ErrArg},
	} {
		got, e := field.Put(c.b, c.at, c.bytes, c.big, c.n)
		checkBytes(t, c.name, got, e, c.want, c.e)
	}
}

// P1.1, P0: the errors of Get are ahead of ErrOver.
func TestPutHasTheErrorsOfGetFirst(t *testing.T) {
	b := []byte{1, 2, 3, 4, 5}
	places := []int{math.MinInt, -1, 0, 1, 2, 3, 4, 5, 6, most, math.MaxInt}
	for _, at := range places {
		for _, size := range places {
			for _, n := range []int{math.MinInt, -1, 1 << 32, math.MaxInt} {
				_, want := field.Get(b, at, size, true)
				if want == api.OK {
					want = api.ErrOver
				}
				if got, e := field.Put(b, at, size, true, n); e != want || len(got) != 0 {
					t.Errorf("Put at %d, %d bytes, %d: %v, %v; want %v", at, size, n, got, e, want)
				}
			}
		}
	}
}

// P1.2
func TestSum(t *testing.T) {
	for _, c := range []struct {
		a, b, n int
		e       api.Errno
	}{
		{0, 0, 0, api.OK},
		{3, 4, 7, api.OK},
		{most, 0, most, api.OK},
		{most - 1, 1, most, api.OK},
		{1 << 30, 1<<30 - 1, most, api.OK},
		{1 << 30, 1 << 30, 0, api.ErrOver},
		{most, 1, 0, api.ErrOver},
		{most + 1, 0, 0, api.ErrOver},
		{most, most, 0, api.ErrOver},
		{math.MaxInt, 0, 0, api.ErrOver},
		{math.MaxInt, 1, 0, api.ErrOver},
		{math.MaxInt, math.MaxInt, 0, api.ErrOver},
		{-1, 0, 0, api.ErrArg},
		{-1, -1, 0, api.ErrArg},
		{-1, math.MaxInt, 0, api.ErrArg},
		{math.MinInt, math.MinInt, 0, api.ErrArg},
	} {
		n, e := field.Sum(c.a, c.b)
		checkNumber(t, "Sum", n, e, c.n, c.e)
		n, e = field.Sum(c.b, c.a)
		checkNumber(t, "Sum, the other way round", n, e, c.n, c.e)
	}
}

// P1.2
func TestTimes(t *testing.T) {
	for _, c := range []struct {
		a, b, n int
		e       api.Errno
	}{
		{0, 0, 0, api.OK},
		{3, 4, 12, api.OK},
		{most, 0, 0, api.OK},
		{most, 1, most, api.OK},
		{math.MaxInt, 0, 0, api.OK},
		{1 << 16, 1<<15 - 1, 1<<31 - 1<<16, api.OK},
		{46340, 46341, 46340 * 46341, api.OK},
		{46341, 46341, 0, api.ErrOver},
		{1 << 16, 1 << 15, 0, api.ErrOver},
		{1 << 30, 2, 0, api.ErrOver},
		{most + 1, 1, 0, api.ErrOver},
		{most, 2, 0, api.ErrOver},
		{1 << 32, 1 << 32, 0, api.ErrOver},
		{math.MaxInt, 2, 0, api.ErrOver},
		{math.MaxInt, math.MaxInt, 0, api.ErrOver},
		{-1, 0, 0, api.ErrArg},
		{-1, -1, 0, api.ErrArg},
		{-1, math.MaxInt, 0, api.ErrArg},
		{math.MinInt, 2, 0, api.ErrArg},
	} {
		n, e := field.Times(c.a, c.b)
		checkNumber(t, "Times", n, e, c.n, c.e)
		n, e = field.Times(c.b, c.a)
		checkNumber(t, "Times, the other way round", n, e, c.n, c.e)
	}
}

// P1.2
func TestPart(t *testing.T) {
	b := []byte{1, 2, 3, 4, 5}
	for _, c := range []struct {
		name      string
		b         []byte
		at, bytes int
		want      []byte
		e         api.Errno
	}{
		{"middle", b, 1, 3, []byte{2, 3, 4}, api.OK},
		{"all", b, 0, 5, b, api.OK},
		{"last byte", b, 4, 1, []byte{5}, api.OK},
		{"none", b, 2, 0, nil, api.OK},
		{"none at the end", b, 5, 0, nil, api.OK},
		{"none of nil", nil, 0, 0, nil, api.OK},
		{"none of an empty one", []byte{}, 0, 0, nil, api.OK},

		{"none past the end", b, 6, 0, nil, api.ErrShort},
		{"none past the end of nil", nil, 1, 0, nil, api.ErrShort},
		{"one at the end", b, 5, 1, nil, api.ErrShort},
		{"one byte too many", b, 4, 2, nil, api.ErrShort},
		{"2^31 - 1 bytes", b, 1, most, nil, api.ErrShort},
		{"greatest bytes", b, 1, math.MaxInt, nil, api.ErrShort},
		{"greatest offset", b, math.MaxInt, 1, nil, api.ErrShort},
		{"greatest of both", b, math.MaxInt, math.MaxInt, nil, api.ErrShort},

		{"negative offset", b, -1, 1, nil, api.ErrArg},
		{"negative bytes", b, 1, -1, nil, api.ErrArg},
		{"least of both", b, math.MinInt, math.MinInt, nil, api.ErrArg},
		{"ErrArg is ahead of ErrShort (offset)", b, -1, 9, nil, api.ErrArg},
		{"ErrArg is ahead of ErrShort (bytes)", b, 9, -1, nil, api.ErrArg},
	} {
		got, e := field.Part(c.b, c.at, c.bytes)
		checkBytes(t, c.name, got, e, c.want, c.e)
	}
}

// What lies between a slice's length and its capacity is none of its bytes.
func TestLengthCountsNotCapacity(t *testing.T) {
	b := []byte{1, 2, 3, 4, 5}[:2]
	if n, e := field.Get(b, 1, 2, false); n != 0 || e != api.ErrShort {
		t.Error("Get", n, e)
	}
	if c, e := field.Put(b, 1, 2, false, 0); len(c) != 0 || e != api.ErrShort {
		t.Error("Put", c, e)
	}
	if c, e := field.Part(b, 1, 2); len(c) != 0 || e != api.ErrShort {
		t.Error("Part", c, e)
	}
}

// numbersOf are the edges of so many bytes, and some between.
func numbersOf(size int) []int {
	end := 1 << (8 * size)
	l := []int{0, 1, 127, 128, 255, end / 2, end/2 - 1, end - 2, end - 1, 0x01020304 % end, 0xfedcba98 % end}
	for n := 1; n < end; n *= 3 {
		l = append(l, n)
	}
	return l
}

// reversed is a number of so many bytes with its bytes the other way round, told by the library.
func reversed(n, size int) int {
	var b [4]byte
	binary.LittleEndian.PutUint32(b[:], uint32(n))
	return int(binary.BigEndian.Uint32(b[:]) >> (8 * (4 - size)))
}

// P1.3
func TestGetIsWhatPutStored(t *testing.T) {
	b := []byte{11, 22, 33, 44, 55, 66, 77, 88}
	for size := 1; size <= 4; size++ {
		for at := 0; at+size <= len(b); at++ {
			for _, n := range numbersOf(size) {
				for _, big := range []bool{false, true} {
					checkStored(t, b, at, size, big, n)
				}
			}
		}
	}
}

func checkStored(t *testing.T, b []byte, at, size int, big bool, n int) {
	t.Helper()
	c, e := field.Put(b, at, size, big, n)
	if e != api.OK || len(c) != len(b) {
		t.Fatalf("Put at %d, %d bytes, %d: %v, %v", at, size, n, c, e)
	}
	if m, e := field.Get(c, at, size, big); m != n || e != api.OK {
		t.Errorf("Get at %d, %d bytes, big %v: %d, %v; want %d", at, size, big, m, e, n)
	}
	if m, e := field.Get(c, at, size, !big); m != reversed(n, size) || e != api.OK {
		t.Errorf("Get at %d, %d bytes, big %v: %d, %v; want %d", at, size, !big, m, e, reversed(n, size))
	}
	if !bytes.Equal(c[:at], b[:at]) || !bytes.Equal(c[at+size:], b[at+size:]) {
		t.Errorf("Put at %d, %d bytes changed others: %v", at, size, c)
	}
}

// The two orders are told by the library, so that Get and Put aren't wrong alike.
func TestOrdersAreThoseOfTheLibrary(t *testing.T) {
	for _, n := range numbersOf(4) {
		little := binary.LittleEndian.AppendUint32(nil, uint32(n))
		c, e := field.Put(make([]byte, 4), 0, 4, false, n)
		checkBytes(t, "little", c, e, little, api.OK)
		big := binary.BigEndian.AppendUint32(nil, uint32(n))
		c, e = field.Put(make([]byte, 4), 0, 4, true, n)
		checkBytes(t, "big", c, e, big, api.OK)
	}
}

// R3: writing to an answer, or behind it, does not reach the argument, nor the other way round.
func TestAnswersAreCopies(t *testing.T) {
	for _, c := range []struct {
		name string
		call func(b []byte) ([]byte, api.Errno)
		want []byte
	}{
		{"Put", func(b []byte) ([]byte, api.Errno) { return field.Put(b, 1, 2, true, 0x0809) }, []byte{1, 8, 9, 4, 5}},
		{"Part", func(b []byte) ([]byte, api.Errno) { return field.Part(b, 1, 2) }, []byte{2, 3}},
		{"Part, all", func(b []byte) ([]byte, api.Errno) { return field.Part(b, 0, 5) }, []byte{1, 2, 3, 4, 5}},
		{"Part, none", func(b []byte) ([]byte, api.Errno) { return field.Part(b, 2, 0) }, nil},
	} {
		b := []byte{1, 2, 3, 4, 5}
		got, e := c.call(b)
		checkBytes(t, c.name, got, e, c.want, api.OK)
		clear(got)
		_ = append(got, 100, 101)
		if !bytes.Equal(b, []byte{1, 2, 3, 4, 5}) {
			t.Errorf("%s: the argument is now %v", c.name, b)
		}
		got, e = c.call(b)
		clear(b)
		checkBytes(t, c.name+", the argument cleared", got, e, c.want, api.OK)
	}
}

// R4 and R5
func TestManyAtTheSameTime(t *testing.T) {
	b := []byte{1, 2, 3, 4, 5}
	var w sync.WaitGroup
	for i := range 16 {
		w.Go(func() {
			for n := range 200 {
				c, e := field.Put(b, i%5, 1, false, n)
				if e != api.OK || c[i%5] != byte(n) {
					t.Error("Put", i, n, c, e)
				}
				if m, e := field.Get(b, 0, 2, false); m != 513 || e != api.OK {
					t.Error("Get", m, e)
				}
			}
		})
	}
	w.Wait()
}
