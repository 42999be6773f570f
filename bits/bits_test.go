package bits_test

import (
	"bytes"
	"encoding/binary"
	"math"
	mathbits "math/bits"
	"slices"
	"sync"
	"testing"

	"swatch/api"
	"swatch/bits"
)

const most = 1<<31 - 1

// block has no byte that reads alike in both orders of bits, and more bits than a number can have.
var block = []byte{0x0d, 0xa7, 0x80, 0x16, 0x3b, 0xe9, 0x52, 0x74, 0xc1, 0x2f}

// edges are arguments at, below and above all bounds, and the greatest and least ones.
var edges = []int{math.MinInt, math.MinInt + 1, -most, -1, 0, 1, 7, 8, 15, 16, 17, 23, 24, 25, 63, 64, 65, 79, 80, 81, most, math.MaxInt - 1, math.MaxInt}

type reader struct {
	name string
	get  func(b []byte, at, bits int) (uint64, api.Errno)
	set  func(b []byte, at, bits int, n uint64) ([]byte, api.Errno)
	high bool
}

var readers = []reader{
	{"Low", bits.Low, bits.SetLow, false},
	{"High", bits.High, bits.SetHigh, true},
}

// bit is low or high bit i, as the chapter's words have it.
func (r reader) bit(b []byte, i int) uint64 {
	if r.high {
		return uint64(b[i/8]>>(7-i%8)) & 1
	}
	return uint64(b[i/8]>>(i%8)) & 1
}

// number is what the reader should answer: a sum over single bits.
func (r reader) number(b []byte, at, size int) uint64 {
	var n uint64
	for k := range size {
		if r.high {
			n = n<<1 + r.bit(b, at+k)
		} else {
			n += r.bit(b, at+k) << k
		}
	}
	return n
}

// fault is which error a read should answer, by sums that don't wrap round.
func fault(b []byte, at, size, mostSize int) api.Errno {
	if at < 0 || size < 0 || size > mostSize {
		return api.ErrArg
	}
	all := uint64(8 * len(b))
	if uint64(at) > all || all-uint64(at) < uint64(size) {
		return api.ErrShort
	}
	return api.OK
}

// P2.1
func TestLowAndHigh(t *testing.T) {
	b := []byte{0x0f, 0xa5, 0x80}
	full := bytes.Repeat([]byte{0xff}, 9)
	for _, c := range []struct {
		name      string
		b         []byte
		at, bits  int
		low, high uint64
		e         api.Errno
	}{
		{"document", []byte{6}, 1, 2, 3, 0, api.OK},
		{"one byte", b, 8, 8, 0xa5, 0xa5, api.OK},
		{"two bytes", b, 0, 16, 0xa50f, 0x0fa5, api.OK},
		{"across a byte", b, 4, 8, 0x50, 0xfa, api.OK},
		{"across two bytes", b, 7, 10, 0x14a, 0x34b, api.OK},
		{"first bit", b, 0, 1, 1, 0, api.OK},
		{"last bit", b, 23, 1, 1, 0, api.OK},
		{"first bit of the last byte", b, 16, 1, 0, 1, api.OK},
		{"all bits", b, 0, 24, 0x80a50f, 0x0fa580, api.OK},
		{"0 bits", b, 5, 0, 0, 0, api.OK},
		{"0 bits at the end", b, 24, 0, 0, 0, api.OK},
		{"0 bits of nil", nil, 0, 0, 0, 0, api.OK},
		{"0 bits of an empty one", []byte{}, 0, 0, 0, 0, api.OK},
		{"64 bits", full, 0, 64, math.MaxUint64, math.MaxUint64, api.OK},
		{"64 bits across bytes", full, 3, 64, math.MaxUint64, math.MaxUint64, api.OK},
		{"64 bits up to the end", full, 8, 64, math.MaxUint64, math.MaxUint64, api.OK},
		{"63 bits", full, 1, 63, math.MaxInt64, math.MaxInt64, api.OK},

		{"64 bits, one too many", full, 9, 64, 0, 0, api.ErrShort},
		{"first bit at the end", b, 24, 1, 0, 0, api.ErrShort},
		{"first bit past the end", b, 25, 1, 0, 0, api.ErrShort},
		{"0 bits past the end", b, 25, 0, 0, 0, api.ErrShort},
		{"0 bits far past the end", b, 99, 0, 0, 0, api.ErrShort},
		{"one bit too many", b, 23, 2, 0, 0, api.ErrShort},
		{"greatest first bit", b, math.MaxInt, 64, 0, 0, api.ErrShort},
		{"1 bit of nil", nil, 0, 1, 0, 0, api.ErrShort},
		{"0 bits past the end of nil", nil, 1, 0, 0, 0, api.ErrShort},

		{"65 bits", full, 0, 65, 0, 0, api.ErrArg},
		{"greatest bits", full, 0, math.MaxInt, 0, 0, api.ErrArg},
		{"negative bits", b, 0, -1, 0, 0, api.ErrArg},
		{"least bits", b, 0, math.MinInt, 0, 0, api.ErrArg},
		{"negative first bit", b, -1, 1, 0, 0, api.ErrArg},
		{"negative first bit, 0 bits", b, -1, 0, 0, 0, api.ErrArg},
		{"least first bit", b, math.MinInt, 1, 0, 0, api.ErrArg},
		{"ErrArg is ahead of ErrShort (bits)", b, 99, 65, 0, 0, api.ErrArg},
		{"ErrArg is ahead of ErrShort (first bit)", nil, -1, 9, 0, 0, api.ErrArg},
	} {
		if n, e := bits.Low(c.b, c.at, c.bits); n != c.low || e != c.e {
			t.Errorf("Low, %s: %#x, %v; want %#x, %v", c.name, n, e, c.low, c.e)
		}
		if n, e := bits.High(c.b, c.at, c.bits); n != c.high || e != c.e {
			t.Errorf("High, %s: %#x, %v; want %#x, %v", c.name, n, e, c.high, c.e)
		}
	}
}

// P2.1: every field of the block, held against a sum over its single bits.
func TestEveryField(t *testing.T) {
	for _, r := range readers {
		for at := 0; at <= 8*len(block); at++ {
			for size := 0; size <= 64 && at+size <= 8*len(block); size++ {
				want := r.number(block, at, size)
				if n, e := r.get(block, at, size); n != want || e != api.OK {
					t.Fatalf("%s at %d, %d bits: %#x, %v; want %#x", r.name, at, size, n, e, want)
				}
			}
		}
	}
}

// P2.1: whole words as the library reads them.
func TestWordsAreThoseOfTheLibrary(t *testing.T) {
	for i := range 3 {
		if n, _ := bits.Low(block, 8*i, 64); n != binary.LittleEndian.Uint64(block[i:]) {
			t.Errorf("Low of byte %d: %#x", i, n)
		}
		if n, _ := bits.High(block, 8*i, 64); n != binary.BigEndian.Uint64(block[i:]) {
			t.Errorf("High of byte %d: %#x", i, n)
		}
	}
}

// P2.1
func TestSetLowAndSetHigh(t *testing.T) {
	b := []byte{0x0f, 0xa5, 0x80}
	for _, c := range []struct {
		name      string
		at, bits  int
		n         uint64
		low, high []byte
		e         api.Errno
	}{
		{"across a byte", 6, 4, 9, []byte{0x4f, 0xa6, 0x80}, []byte{0x0e, 0x65, 0x80}, api.OK},
		{"1 bit", 1, 1, 0, []byte{0x0d, 0xa5, 0x80}, b, api.OK},
		{"last bit", 23, 1, 1, b, []byte{0x0f, 0xa5, 0x81}, api.OK},
		{"across two bytes", 4, 16, 0x1234, []byte{0x4f, 0x23, 0x81}, []byte{0x01, 0x23, 0x40}, api.OK},
		{"all bits", 0, 24, 0x123456, []byte{0x56, 0x34, 0x12}, []byte{0x12, 0x34, 0x56}, api.OK},
		{"0 bits", 9, 0, 0, b, b, api.OK},
		{"0 bits at the end", 24, 0, 0, b, b, api.OK},

		{"too great for 0 bits", 9, 0, 1, nil, nil, api.ErrOver},
		{"too great for 1 bit", 9, 1, 2, nil, nil, api.ErrOver},
		{"too great for 3 bits", 0, 3, 8, nil, nil, api.ErrOver},
		{"greatest number", 0, 24, math.MaxUint64, nil, nil, api.ErrOver},

		{"at the end", 24, 1, 1, nil, nil, api.ErrShort},
		{"0 bits past the end", 25, 0, 0, nil, nil, api.ErrShort},
		{"one bit too many", 20, 5, 0, nil, nil, api.ErrShort},
		{"greatest first bit", math.MaxInt, 64, 0, nil, nil, api.ErrShort},
		{"65 bits", 0, 65, 0, nil, nil, api.ErrArg},
		{"negative bits", 0, -1, 0, nil, nil, api.ErrArg},
		{"negative first bit", -1, 1, 0, nil, nil, api.ErrArg},
	} {
		if got, e := bits.SetLow(b, c.at, c.bits, c.n); e != c.e || !bytes.Equal(got, c.low) {
			t.Errorf("SetLow, %s: %x, %v; want %x, %v", c.name, got, e, c.low, c.e)
		}
		if got, e := bits.SetHigh(b, c.at, c.bits, c.n); e != c.e || !bytes.Equal(got, c.high) {
			t.Errorf("SetHigh, %s: %x, %v; want %x, %v", c.name, got, e, c.high, c.e)
		}
	}
}

// P2.1: of each size the greatest number fits, and the one above it doesn't.
func TestWhatFits(t *testing.T) {
	for _, r := range readers {
		for size := 0; size <= 64; size++ {
			greatest := uint64(1)<<size - 1
			c, e := r.set(block, 5, size, greatest)
			if n, _ := r.get(c, 5, size); e != api.OK || n != greatest {
				t.Errorf("Set%s of %d bits, %#x: %x, %v", r.name, size, greatest, c, e)
			}
			if size == 64 {
				continue
			}
			if c, e := r.set(block, 5, size, greatest+1); e != api.ErrOver || len(c) != 0 {
				t.Errorf("Set%s of %d bits, %#x: %x, %v", r.name, size, greatest+1, c, e)
			}
		}
	}
}

// P2.1, P0, R1: the errors at all edges, and the setters' ErrOver behind those of the readers.
func TestErrorsAtEdges(t *testing.T) {
	for _, r := range readers {
		for _, b := range [][]byte{nil, {}, block[:1], block[:3], block} {
			for _, at := range edges {
				for _, size := range edges {
					checkErrors(t, r, b, at, size)
				}
			}
		}
	}
}

func checkErrors(t *testing.T, r reader, b []byte, at, size int) {
	t.Helper()
	want := fault(b, at, size, 64)
	n, e := r.get(b, at, size)
	if e != want || e != api.OK && n != 0 {
		t.Errorf("%s of %d bytes at %d, %d bits: %d, %v; want %v", r.name, len(b), at, size, n, e, want)
	}
	for _, n := range []uint64{0, 1, math.MaxUint64} {
		wantSet := want
		if want == api.OK && n != 0 && mathbits.Len64(n) > size {
			wantSet = api.ErrOver
		}
		c, e := r.set(b, at, size, n)
		if e != wantSet || e != api.OK && len(c) != 0 || e == api.OK && len(c) != len(b) {
			t.Errorf("Set%s of %d bytes at %d, %d bits, %d: %x, %v; want %v", r.name, len(b), at, size, n, c, e, wantSet)
		}
	}
}

// P2.2
func TestLows(t *testing.T) {
	b := []byte{0x0f, 0xa5, 0x80}
	full := bytes.Repeat([]byte{0xff}, 128)
	for _, c := range []struct {
		name           string
		b              []byte
		at, bits, many int
		want           []int
		e              api.Errno
	}{
		{"4 bits each", b, 4, 4, 5, []int{0, 5, 10, 0, 8}, api.OK},
		{"1 bit each", b, 6, 1, 5, []int{0, 0, 1, 0, 1}, api.OK},
		{"3 bits each, across bytes", b, 0, 3, 8, []int{7, 1, 4, 2, 2, 1, 0, 4}, api.OK},
		{"16 bits", b, 8, 16, 1, []int{0x80a5}, api.OK},
		{"16 bits across bytes", b, 3, 16, 1, []int{0x14a1}, api.OK},
		{"16 bits, 64 numbers", full, 0, 16, 64, slices.Repeat([]int{65535}, 64), api.OK},
		{"0 bits", b, 7, 0, 3, []int{0, 0, 0}, api.OK},
		{"0 bits, 64 numbers at the end", b, 24, 0, 64, make([]int, 64), api.OK},
		{"0 bits of nil", nil, 0, 0, 2, []int{0, 0}, api.OK},
		{"0 numbers", b, 3, 16, 0, nil, api.OK},
		{"0 numbers at the end", b, 24, 16, 0, nil, api.OK},
		{"0 numbers of nil", nil, 0, 16, 0, nil, api.OK},
		{"64 numbers", full[:8], 0, 1, 64, slices.Repeat([]int{1}, 64), api.OK},

		{"one bit too few", b, 1, 4, 6, nil, api.ErrShort},
		{"five times 5 bits", b, 0, 5, 5, nil, api.ErrShort},
		{"16 bits, 64 numbers, one bit too few", full, 1, 16, 64, nil, api.ErrShort},
		{"at the end", b, 24, 1, 1, nil, api.ErrShort},
		{"0 bits past the end", b, 25, 0, 3, nil, api.ErrShort},
		{"0 numbers past the end", b, 25, 3, 0, nil, api.ErrShort},
		{"0 numbers past the end of nil", nil, 1, 3, 0, nil, api.ErrShort},
		{"greatest first bit", b, math.MaxInt, 16, 64, nil, api.ErrShort},

		{"17 bits", b, 0, 17, 1, nil, api.ErrArg},
		{"17 bits, 0 numbers", b, 0, 17, 0, nil, api.ErrArg},
		{"65 numbers", full, 0, 1, 65, nil, api.ErrArg},
		{"65 numbers of 0 bits", full, 0, 0, 65, nil, api.ErrArg},
		{"negative first bit", b, -1, 1, 1, nil, api.ErrArg},
		{"negative first bit, nothing asked", b, -1, 0, 0, nil, api.ErrArg},
		{"negative bits", b, 0, -1, 1, nil, api.ErrArg},
		{"negative numbers", b, 0, 1, -1, nil, api.ErrArg},
		{"negative bits and numbers", b, 0, -2, -2, nil, api.ErrArg},
		{"ErrArg is ahead of ErrShort (bits)", b, 99, 17, 1, nil, api.ErrArg},
		{"ErrArg is ahead of ErrShort (numbers)", b, 99, 1, 65, nil, api.ErrArg},
		{"ErrArg is ahead of ErrShort (first bit)", nil, -1, 1, 1, nil, api.ErrArg},
	} {
		got, e := bits.Lows(c.b, c.at, c.bits, c.many)
		if e != c.e || !slices.Equal(got, c.want) {
			t.Errorf("%s: %v, %v; want %v, %v", c.name, got, e, c.want, c.e)
		}
	}
}

// P2.2: Lows are Low, one behind the other.
func TestLowsAreLow(t *testing.T) {
	for at := range 20 {
		for size := range 17 {
			for many := 0; many <= 64 && at+size*many <= 8*len(block); many++ {
				got, e := bits.Lows(block, at, size, many)
				if e != api.OK || len(got) != many {
					t.Fatalf("at %d, %d bits, %d numbers: %v, %v", at, size, many, got, e)
				}
				for i, n := range got {
					if want, _ := bits.Low(block, at+i*size, size); uint64(n) != want {
						t.Fatalf("at %d, %d bits, number %d: %d; want %d", at, size, i, n, want)
					}
				}
			}
		}
	}
}

// P2.2, P0, R1
func TestLowsErrorsAtEdges(t *testing.T) {
	for _, b := range [][]byte{nil, block[:3], block} {
		for _, at := range edges {
			for _, size := range edges {
				for _, many := range edges {
					want := api.ErrArg
					if size >= 0 && size <= 16 && many >= 0 && many <= 64 {
						want = fault(b, at, size*many, math.MaxInt)
					}
					got, e := bits.Lows(b, at, size, many)
					if e != want || e != api.OK && len(got) != 0 || e == api.OK && len(got) != many {
						t.Errorf("%d bytes at %d, %d bits, %d numbers: %v, %v; want %v", len(b), at, size, many, got, e, want)
					}
				}
			}
		}
	}
}

// someOf are numbers of so many bits: the edges and some between.
func someOf(size int) []uint64 {
	mask := uint64(1)<<size - 1
	return []uint64{0, mask, 1 & mask, mask &^ 1, 0x5555555555555555 & mask, 0x123456789abcdef0 & mask, 0xf7e6d5c4b3a29180 & mask}
}

// P2.3: what is stored is read, and all other bits are as they were.
func TestWhatIsStoredIsRead(t *testing.T) {
	for _, r := range readers {
		for at := 0; at <= 8*len(block); at++ {
			for size := 0; size <= 64 && at+size <= 8*len(block); size++ {
				for _, n := range someOf(size) {
					checkStored(t, r, at, size, n)
				}
			}
		}
	}
}

func checkStored(t *testing.T, r reader, at, size int, n uint64) {
	t.Helper()
	c, e := r.set(block, at, size, n)
	if e != api.OK || len(c) != len(block) {
		t.Fatalf("Set%s at %d, %d bits, %#x: %x, %v", r.name, at, size, n, c, e)
	}
	if m, e := r.get(c, at, size); m != n || e != api.OK {
		t.Fatalf("%s at %d, %d bits: %#x, %v; want %#x", r.name, at, size, m, e, n)
	}
	for i := range 8 * len(block) {
		if (i < at || i >= at+size) && r.bit(c, i) != r.bit(block, i) {
			t.Fatalf("Set%s at %d, %d bits changed bit %d", r.name, at, size, i)
		}
	}
}

// turned is a block in which the bits of each byte are reversed.
func turned(b []byte) []byte {
	c := slices.Clone(b)
	for i := range c {
		c[i] = mathbits.Reverse8(c[i])
	}
	return c
}

// P2.3: low bits are the high bits of the block in which the bits of each byte are reversed.
func TestLowBitsAreHighBitsOfTheTurnedBlock(t *testing.T) {
	c := turned(block)
	for i := range 8 * len(block) {
		low, _ := bits.Low(block, i, 1)
		high, _ := bits.High(c, i, 1)
		if low != high {
			t.Errorf("bit %d: %d, %d", i, low, high)
		}
	}
	for at := range 17 {
		for size := 0; size <= 63; size++ {
			n := uint64(0xf7e6d5c4b3a29180) >> (64 - size)
			low, _ := bits.SetLow(block, at, size, n)
			high, _ := bits.SetHigh(c, at, size, mathbits.Reverse64(n)>>(64-size))
			if !bytes.Equal(turned(low), high) {
				t.Errorf("at %d, %d bits: %x, %x", at, size, turned(low), high)
			}
		}
	}
}

// What lies between a slice's length and its capacity is none of its bits.
func TestLengthCountsNotCapacity(t *testing.T) {
	b := slices.Clone(block)[:2]
	for _, r := range readers {
		if n, e := r.get(b, 15, 2); n != 0 || e != api.ErrShort {
			t.Error(r.name, n, e)
		}
		if c, e := r.set(b, 15, 2, 0); len(c) != 0 || e != api.ErrShort {
			t.Error("Set"+r.name, c, e)
		}
	}
	if l, e := bits.Lows(b, 15, 1, 2); len(l) != 0 || e != api.ErrShort {
		t.Error("Lows", l, e)
	}
}

// R3: writing to an answer does not reach the argument, nor the other way round; not even if no bit is stored.
func TestAnswersAreCopies(t *testing.T) {
	for _, r := range readers {
		for _, size := range []int{0, 5, 64} {
			b := slices.Clone(block)
			got, _ := r.set(b, 3, size, 0)
			if !bytes.Equal(b, block) {
				t.Errorf("Set%s of %d bits changed its argument: %x", r.name, size, b)
			}
			want := slices.Clone(got)
			clear(b)
			if !bytes.Equal(got, want) {
				t.Errorf("Set%s of %d bits: the answer changed with the argument", r.name, size)
			}
			copy(b, block)
			clear(got)
			_ = append(got, 1, 2, 3)
			if !bytes.Equal(b, block) {
				t.Errorf("Set%s of %d bits: the argument changed with the answer", r.name, size)
			}
		}
	}
}

// R4 and R5
func TestManyAtTheSameTime(t *testing.T) {
	b := slices.Clone(block)
	var w sync.WaitGroup
	for i := range 16 {
		w.Go(func() {
			for n := range uint64(200) {
				c, e := bits.SetLow(b, i, 8, n)
				if m, f := bits.Low(c, i, 8); e != api.OK || f != api.OK || m != n {
					t.Error("low", i, n, m, e, f)
				}
				c, e = bits.SetHigh(b, i, 8, n)
				if m, f := bits.High(c, i, 8); e != api.OK || f != api.OK || m != n {
					t.Error("high", i, n, m, e, f)
				}
				if l, e := bits.Lows(b, 0, 4, 2); e != api.OK || !slices.Equal(l, []int{13, 0}) {
					t.Error("lows", l, e)
				}
			}
		})
	}
	w.Wait()
	if !bytes.Equal(b, block) {
		t.Error("the block changed")
	}
}
