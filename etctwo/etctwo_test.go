package etctwo_test

import (
	"encoding/hex"
	"math"
	"slices"
	"sync"
	"testing"

	"swatch/api"
	"swatch/etcone"
	"swatch/etctwo"
)

// far are numbers at the ends of the range of int, and numbers of which some low bits are those of small ones.
var far = []int{math.MinInt, math.MinInt + 1, -1 << 62, -1 << 32, -1<<32 + 1, -1 << 31, -1 << 16, -256, -255, -128, -127, -64, -63, 256, 257, 1 << 16, 1 << 31, 1 << 32, 1<<32 + 1, 1 << 62, math.MaxInt - 1, math.MaxInt}

// wrongSizes are numbers of bytes that no block has.
var wrongSizes = []int{0, 1, 2, 3, 4, 5, 6, 7, 9, 10, 15, 16, 17, 24, 64}

// distances are those of the chapter, written out.
var distances = [8]int{3, 6, 11, 16, 23, 32, 41, 64}

// steps are what the tables of blocks of two halves add for the index 1; for the index 0 see smallSteps.
var (
	steps      = [8]int{8, 17, 29, 42, 60, 80, 106, 183}
	smallSteps = [8]int{2, 5, 9, 13, 18, 24, 33, 47}
)

// Where the bits of colours stand, each one written out: of T and H those of A and B, of planar blocks those of O, H and V.
var (
	bitsT = [][3][]int{
		{{3, 4, 6, 7}, {8, 9, 10, 11}, {12, 13, 14, 15}},
		{{16, 17, 18, 19}, {20, 21, 22, 23}, {24, 25, 26, 27}},
	}
	bitsH = [][3][]int{
		{{1, 2, 3, 4}, {5, 6, 7, 11}, {12, 14, 15, 16}},
		{{17, 18, 19, 20}, {21, 22, 23, 24}, {25, 26, 27, 28}},
	}
	bitsPlanar = [][3][]int{
		{{1, 2, 3, 4, 5, 6}, {7, 9, 10, 11, 12, 13, 14}, {15, 19, 20, 22, 23, 24}},
		{{25, 26, 27, 28, 29, 31}, {32, 33, 34, 35, 36, 37, 38}, {39, 40, 41, 42, 43, 44}},
		{{45, 46, 47, 48, 49, 50}, {51, 52, 53, 54, 55, 56, 57}, {58, 59, 60, 61, 62, 63}},
	}
)

// bit is one of a block, counted from the highest of each byte on.
func bit(b []byte, at int) int {
	return int(b[at/8]>>(7-at%8)) & 1
}

// number is that of the bits at such places, the highest first.
func number(b []byte, places []int) int {
	n := 0
	for _, at := range places {
		n = 2*n + bit(b, at)
	}
	return n
}

// put stores a number where number reads it.
func put(b []byte, n int, places []int) {
	for k, at := range places {
		b[at/8] &^= 1 << (7 - at%8)
		b[at/8] |= byte(n >> (len(places) - 1 - k) & 1 << (7 - at%8))
	}
}

// signed is a difference of three bits.
func signed(n int) int {
	if n > 3 {
		return n - 8
	}
	return n
}

// kindOf is the kind of a block of 8 bytes.
func kindOf(b []byte, punch bool) int {
	if !punch && bit(b, 30) == 0 {
		return etctwo.Halves
	}
	for c, kind := range []int{etctwo.T, etctwo.H, etctwo.Planar} {
		if goesFar(b, c) {
			return kind
		}
	}
	return etctwo.Halves
}

// wide is a number of some bits (4 to 7) as one of 8.
func wide(n, width int) int {
	return n<<(8-width) | n>>(2*width-8)
}

// colour is the one whose bits stand there.
func colour(b []byte, at [3][]int) api.Texel {
	out := api.Texel{3: 255}
	for c, places := range at {
		out[c] = wide(number(b, places), len(places))
	}
	return out
}

// with is a colour with a number added.
func with(x api.Texel, n int) api.Texel {
	for c := range 3 {
		x[c] = min(255, max(0, x[c]+n))
	}
	return x
}

// plane are the texels between three colours.
func plane(o, h, v api.Texel) api.Tile {
	var out api.Tile
	for y := range 4 {
		for x := range 4 {
			out[4*y+x][3] = 255
			for c := range 3 {
				n := x*h[c] - x*o[c] + y*v[c] - y*o[c] + 4*o[c] + 2
				out[4*y+x][c] = min(255, max(0, int(math.Floor(float64(n)/4))))
			}
		}
	}
	return out
}

// halves is the texel with such an index in a half of a block of two.
func halves(b []byte, diff, opaque bool, half, index int) api.Texel {
	out := api.Texel{3: 255}
	for c := range 3 {
		if diff {
			n := int(b[c] / 8)
			if half == 1 {
				n += signed(int(b[c] % 8))
			}
			out[c] = 8*n + n/4
		} else if half == 0 {
			out[c] = int(b[c]/16) * 17
		} else {
			out[c] = int(b[c]%16) * 17
		}
	}
	table := number(b, [][]int{{24, 25, 26}, {27, 28, 29}}[half])
	n := steps[table]
	if index%2 == 0 {
		n = smallSteps[table]
		if !opaque {
			n = 0
		}
	}
	if index >= 2 {
		n = -n
	}
	return with(out, n)
}

// fourOf are the texels of the four indices of T and of H.
func fourOf(b []byte, kind int) [4]api.Texel {
	if kind == etctwo.T {
		x, y := colour(b, bitsT[0]), colour(b, bitsT[1])
		d := distances[number(b, []int{28, 29, 31})]
		return [4]api.Texel{x, with(y, d), y, with(y, -d)}
	}
	x, y := colour(b, bitsH[0]), colour(b, bitsH[1])
	n := number(b, []int{29, 31}) * 2
	if number(b, slices.Concat(bitsH[0][:]...)) >= number(b, slices.Concat(bitsH[1][:]...)) {
		n++
	}
	d := distances[n]
	return [4]api.Texel{with(x, d), with(x, -d), with(y, d), with(y, -d)}
}

// indexOf is the index of a texel.
func indexOf(b []byte, texel int) int {
	col, row := texel%4, texel/4
	return 2*bit(b, 47-4*col-row) + bit(b, 63-4*col-row)
}

// setIndices stores the index of each texel.
func setIndices(b []byte, which [16]int) {
	for i, index := range which {
		put(b, index, []int{47 - i%4*4 - i/4, 63 - i%4*4 - i/4})
	}
}

// tileOf are the texels of a block of 8 bytes.
func tileOf(b []byte, punch bool) api.Tile {
	kind := kindOf(b, punch)
	if kind == etctwo.Planar {
		return plane(colour(b, bitsPlanar[0]), colour(b, bitsPlanar[1]), colour(b, bitsPlanar[2]))
	}
	opaque := !punch || bit(b, 30) == 1
	var out api.Tile
	for i := range out {
		index, half := indexOf(b, i), i%4/2
		if bit(b, 31) == 1 {
			half = i / 8
		}
		switch {
		case !opaque && index == 2:
		case kind == etctwo.Halves:
			out[i] = halves(b, punch || bit(b, 30) == 1, opaque, half, index)
		default:
			out[i] = fourOf(b, kind)[index]
		}
	}
	return out
}

// check holds a block of 8 bytes against what the chapter asks of it, with punch and without it.
func check(t *testing.T, b []byte) {
	t.Helper()
	for _, punch := range []bool{false, true} {
		if kind := etctwo.Kind(b, punch); kind != kindOf(b, punch) {
			t.Errorf("Kind(%x, %t) = %d, not %d", b, punch, kind, kindOf(b, punch))
		}
		want := tileOf(b, punch)
		if u, e := etctwo.Decode(b, punch); e != api.OK || u != want {
			t.Errorf("Decode(%x, %t) = %v, %d, not %v", b, punch, u, e, want)
		}
	}
}

// mixer is a source of numbers below a bound that look without order but are the same each time.
func mixer(seed int) func(many int) int {
	state := uint32(seed)*2654435761 + 12345
	return func(many int) int {
		state = state*1664525 + 1013904223
		return int(state>>8) % many
	}
}

// overflow sets the first bits of a channel's byte so that its number goes too far: there is one way, given its other bits.
func overflow(b []byte, c int) {
	if number(b, []int{8*c + 3, 8*c + 4})+number(b, []int{8*c + 6, 8*c + 7}) >= 4 {
		put(b, 14, []int{8 * c, 8*c + 1, 8*c + 2, 8*c + 5})
	} else {
		put(b, 1, []int{8 * c, 8*c + 1, 8*c + 2, 8*c + 5})
	}
}

// goesFar tells whether a channel's number goes too far.
func goesFar(b []byte, c int) bool {
	n := int(b[c]/8) + signed(int(b[c]%8))
	return n < 0 || n > 31
}

// keep turns the first bit of a channel's byte over if its number goes too far: with it the number does not.
func keep(b []byte, c int) {
	if goesFar(b, c) {
		b[c] ^= 128
	}
}

// ofKind is a block made of mixed bytes that is of such a kind if its bit 30 is heeded, with that bit as it is said.
func ofKind(seed, kind, diff int) []byte {
	next := mixer(seed)
	b := make([]byte, 8)
	for i := range b {
		b[i] = byte(next(256))
	}
	put(b, diff, []int{30})
	for c, k := range []int{etctwo.T, etctwo.H, etctwo.Planar} {
		if k == kind {
			overflow(b, c)
			break
		}
		keep(b, c)
	}
	return b
}

var allKinds = []int{etctwo.Halves, etctwo.T, etctwo.H, etctwo.Planar}

// blocks are some of each kind, with bit 30 and without it.
func blocks() [][]byte {
	var l [][]byte
	for seed := range 60 {
		for _, kind := range allKinds {
			l = append(l, ofKind(seed, kind, 0), ofKind(seed, kind, 1))
		}
	}
	return l
}

// bytesOf are those that such digits tell.
func bytesOf(t *testing.T, digits string) []byte {
	t.Helper()
	b, err := hex.DecodeString(digits)
	if err != nil {
		t.Fatal(err)
	}
	return b
}

// alike is a tile of one texel, sixteen times.
func alike(x api.Texel) api.Tile {
	return api.Tile(slices.Repeat([]api.Texel{x}, 16))
}

func TestConstants(t *testing.T) {
	if l := [4]int{etctwo.Halves, etctwo.T, etctwo.H, etctwo.Planar}; l != [4]int{0, 1, 2, 3} {
		t.Errorf("kinds %v", l)
	}
}

func TestKindExamples(t *testing.T) { // P11.1: the first channel that goes too far, below 0 and above 31
	for _, c := range []struct {
		block        string
		plain, punch int
	}{
		{"0000000000000000", etctwo.Halves, etctwo.Halves},
		{"0000000200000000", etctwo.Halves, etctwo.Halves},
		{"0700000200000000", etctwo.T, etctwo.T},
		{"0700000000000000", etctwo.Halves, etctwo.T},
		{"f900000200000000", etctwo.T, etctwo.T},
		{"f900000000000000", etctwo.Halves, etctwo.T},
		{"e300000200000000", etctwo.Halves, etctwo.Halves},
		{"eb00000200000000", etctwo.T, etctwo.T},
		{"2400000200000000", etctwo.Halves, etctwo.Halves},
		{"1c00000200000000", etctwo.T, etctwo.T},
		{"0007000200000000", etctwo.H, etctwo.H},
		{"0007000000000000", etctwo.Halves, etctwo.H},
		{"00f9000200000000", etctwo.H, etctwo.H},
		{"00f9000000000000", etctwo.Halves, etctwo.H},
		{"0000070200000000", etctwo.Planar, etctwo.Planar},
		{"0000070000000000", etctwo.Halves, etctwo.Planar},
		{"0000f90200000000", etctwo.Planar, etctwo.Planar},
		{"0000f90000000000", etctwo.Halves, etctwo.Planar},
		{"0707070200000000", etctwo.T, etctwo.T},
		{"f907f90200000000", etctwo.T, etctwo.T},
		{"00f9070200000000", etctwo.H, etctwo.H},
		{"ffffffffffffffff", etctwo.Halves, etctwo.Halves},
	} {
		b := bytesOf(t, c.block)
		if kind := etctwo.Kind(b, false); kind != c.plain {
			t.Errorf("Kind(%s, false) = %d, not %d", c.block, kind, c.plain)
		}
		if kind := etctwo.Kind(b, true); kind != c.punch {
			t.Errorf("Kind(%s, true) = %d, not %d", c.block, kind, c.punch)
		}
	}
}

func TestKindOfEachByte(t *testing.T) { // P11.1: each byte of each channel, the others in range, too low and too high
	for c := range 3 {
		for n := range 256 {
			for _, others := range []byte{0, 128, 255, 7, 249} {
				for _, last := range []byte{0, 1, 2, 3, 253, 255} {
					b := []byte{others, others, others, last, 0x12, 0x34, 0x56, 0x78}
					b[c] = byte(n)
					check(t, b)
				}
			}
		}
	}
}

func TestDistance(t *testing.T) { // P11.1
	for n := -64; n < 64; n++ {
		if d := etctwo.Distance(n); d != distances[(n+64)%8] {
			t.Errorf("Distance(%d) = %d", n, d)
		}
	}
	for _, n := range far {
		if d := etctwo.Distance(n); d != distances[(n%8+8)%8] {
			t.Errorf("Distance(%d) = %d", n, d)
		}
	}
}

func TestManyBlocks(t *testing.T) { // P11.1, P11.3
	for seed := range 4000 {
		for _, kind := range allKinds {
			for diff := range 2 {
				b := ofKind(seed, kind, diff)
				if kindOf(b, true) != kind {
					t.Fatalf("%x is not of kind %d", b, kind)
				}
				check(t, b)
			}
		}
	}
}

func TestEachBit(t *testing.T) { // P11.1: each bit of blocks of each kind turned over
	for _, b := range blocks() {
		for i := range 64 {
			c := slices.Clone(b)
			c[i/8] ^= 1 << (i % 8)
			check(t, c)
		}
	}
}

func TestEachIndex(t *testing.T) { // P11.1: each index at each texel, of each kind, opaque or not
	for _, kind := range allKinds {
		for diff := range 2 {
			for i := range 16 {
				for v := range 4 {
					b := ofKind(i, kind, diff)
					if kind == etctwo.Planar { // its last bytes are colours
						check(t, b)
						continue
					}
					which := [16]int(slices.Repeat([]int{(v + 1) % 4}, 16))
					which[i] = v
					setIndices(b, which)
					check(t, b)
				}
			}
		}
	}
}

func TestT(t *testing.T) { // P11.1: blocks of kind T written out
	a, b := api.Texel{0x99, 0x66, 0x33, 255}, api.Texel{0x55, 0xaa, 0xdd, 255}
	for n, d := range distances {
		l := make([]byte, 8)
		for c, v := range []int{9, 6, 3} {
			put(l, v, bitsT[0][c])
		}
		for c, v := range []int{5, 10, 13} {
			put(l, v, bitsT[1][c])
		}
		put(l, n, []int{28, 29, 31})
		put(l, 1, []int{30})
		overflow(l, 0)
		setIndices(l, [16]int{0, 1, 2, 3})
		want := [5]api.Texel{
			a,
			{0x55 + d, min(255, 0xaa+d), min(255, 0xdd+d), 255},
			b,
			{0x55 - min(d, 0x55), 0xaa - d, 0xdd - d, 255},
			a,
		}
		for _, punch := range []bool{false, true} {
			if u, e := etctwo.Decode(l, punch); e != api.OK || [5]api.Texel(u[:5]) != want {
				t.Errorf("distance %d, %t: %v, %d, not %v", n, punch, u[:5], e, want)
			}
		}
		put(l, 0, []int{30})
		want[2] = api.Texel{}
		if u, e := etctwo.Decode(l, true); e != api.OK || [5]api.Texel(u[:5]) != want {
			t.Errorf("distance %d, not opaque: %v, %d, not %v", n, u[:5], e, want)
		}
	}
}

// blockH is an opaque block of kind H.
func blockH(a, b [3]int, distance int) []byte {
	l := make([]byte, 8)
	for c := range 3 {
		put(l, a[c], bitsH[0][c])
		put(l, b[c], bitsH[1][c])
	}
	put(l, distance, []int{29, 31})
	put(l, 1, []int{30})
	keep(l, 0)
	overflow(l, 1)
	setIndices(l, [16]int{0, 1, 2, 3})
	return l
}

func TestH(t *testing.T) { // P11.1: A less than B, equal to it and greater, by red, by green and by blue
	for i, c := range []struct {
		a, b [3]int
		last int
	}{
		{[3]int{0, 0, 0}, [3]int{0, 0, 0}, 1},
		{[3]int{15, 15, 15}, [3]int{15, 15, 15}, 1},
		{[3]int{7, 8, 9}, [3]int{7, 8, 9}, 1},
		{[3]int{7, 8, 9}, [3]int{7, 8, 10}, 0},
		{[3]int{7, 8, 10}, [3]int{7, 8, 9}, 1},
		{[3]int{7, 8, 15}, [3]int{7, 9, 0}, 0},
		{[3]int{7, 9, 0}, [3]int{7, 8, 15}, 1},
		{[3]int{7, 15, 15}, [3]int{8, 0, 0}, 0},
		{[3]int{8, 0, 0}, [3]int{7, 15, 15}, 1},
		{[3]int{0, 0, 0}, [3]int{15, 15, 15}, 0},
		{[3]int{15, 15, 15}, [3]int{0, 0, 0}, 1},
		{[3]int{1, 0, 0}, [3]int{0, 15, 15}, 1},
	} {
		for n := range 4 {
			l := blockH(c.a, c.b, n)
			d := distances[2*n+c.last]
			a := api.Texel{17 * c.a[0], 17 * c.a[1], 17 * c.a[2], 255}
			b := api.Texel{17 * c.b[0], 17 * c.b[1], 17 * c.b[2], 255}
			want := [5]api.Texel{with(a, d), with(a, -d), with(b, d), with(b, -d), with(a, d)}
			for _, punch := range []bool{false, true} {
				if u, e := etctwo.Decode(l, punch); e != api.OK || [5]api.Texel(u[:5]) != want {
					t.Errorf("%d, %d, %t: %v, %d, not %v", i, n, punch, u[:5], e, want)
				}
			}
			put(l, 0, []int{30})
			want[2] = api.Texel{}
			if u, e := etctwo.Decode(l, true); e != api.OK || [5]api.Texel(u[:5]) != want {
				t.Errorf("%d, %d, not opaque: %v, %d, not %v", i, n, u[:5], e, want)
			}
		}
	}
}

func TestColoursOfTAndH(t *testing.T) { // P11.1: each number of each channel, the others at their ends; clamped at 0 and at 255
	for c := range 3 {
		for n := range 16 {
			for _, other := range []int{0, 15, 6} {
				for d := range 8 {
					a, b := [3]int{other, other, other}, [3]int{15 - other, other, 15 - other}
					a[c], b[c] = n, 15-n
					check(t, blockH(a, b, d/2))
					check(t, blockH(b, a, d/2))
					l := make([]byte, 8)
					for k := range 3 {
						put(l, a[k], bitsT[0][k])
						put(l, b[k], bitsT[1][k])
					}
					put(l, d, []int{28, 29, 31})
					put(l, d&1, []int{30})
					overflow(l, 0)
					setIndices(l, [16]int{0, 1, 2, 3, 3, 1})
					check(t, l)
				}
			}
		}
	}
}

func TestHalves(t *testing.T) { // P11.1: two halves, opaque and not: the base colour, the table's numbers, and nothing
	l := []byte{16 << 3, 8<<3 | 7, 4<<3 | 1, 2<<5 | 7<<2, 0, 0, 0, 0} // bases 132, 66, 33 and 132, 57, 41; tables 9, 29 and 47, 183
	setIndices(l, [16]int{0, 1, 0, 1, 2, 3, 2, 3})
	want := [8]api.Texel{{132, 66, 33, 255}, {161, 95, 62, 255}, {132, 57, 41, 255}, {255, 240, 224, 255}, {}, {103, 37, 4, 255}, {}, {0, 0, 0, 255}}
	if u, e := etctwo.Decode(l, true); e != api.OK || [8]api.Texel(u[:8]) != want {
		t.Errorf("not opaque: %v, %d, not %v", u[:8], e, want)
	}
	l[3] |= 2
	want = [8]api.Texel{{141, 75, 42, 255}, {161, 95, 62, 255}, {179, 104, 88, 255}, {255, 240, 224, 255}, {123, 57, 24, 255}, {103, 37, 4, 255}, {85, 10, 0, 255}, {0, 0, 0, 255}}
	for _, punch := range []bool{false, true} {
		if u, e := etctwo.Decode(l, punch); e != api.OK || [8]api.Texel(u[:8]) != want {
			t.Errorf("opaque, %t: %v, %d, not %v", punch, u[:8], e, want)
		}
	}
	for flip := range 2 {
		for pair := range 64 {
			for diff := range 2 {
				b := ofKind(pair, etctwo.Halves, diff)
				put(b, pair, []int{24, 25, 26, 27, 28, 29})
				put(b, flip, []int{31})
				check(t, b)
			}
		}
	}
}

func TestDecodeBlocks(t *testing.T) { // P11.1: blocks and their texels, written out
	for _, c := range []struct {
		block  string
		punch  bool
		kind   int
		texels string
	}{
		{"bc629320c8d2b1b1", false, etctwo.Halves, "cc77aaffaa5588ffd42a3bffd42a3bffb66194ffcc77aaffce2435ffd42a3bffc06b9effb66194ffce2435ffca2031ffc06b9effaa5588ffca2031ffc41a2bff"},
		{"2c9df479975bc3c0", false, etctwo.Halves, "158cf2ff158cf2ff006fd5ff158cf2ff158cf2ff2fa6ffff006fd5ff2fa6ffffedfe65ff627300ffabbc23ffffffaeffabbc23ffffffaeffedfe65ff627300ff"},
		{"9fc8d3ba4c509454", false, etctwo.Halves, "b4e6eeff4c7e86ffb5effffffeffffffb4e6eeffb4e6eeffb5efffffb5efffffecffffff4c7e86ff2a6485ff73adceffb4e6eeffb4e6eeff73adcefffeffffff"},
		{"045d72070a57155f", false, etctwo.T, "671200ff671200ff873210ff873210ff671200ff0055ddff772200ff0055ddff671200ff671200ff873210ff0055ddff873210ff0055ddff772200ff0055ddff"},
		{"04aacf8eaf1ff09b", false, etctwo.T, "a3d65fffa3d65fffccff88fff5ffb1ffa3d65fff00aaaaffccff88ffa3d65fffccff88ff00aaaaffccff88fff5ffb1ffa3d65ffff5ffb1ffccff88ffa3d65fff"},
		{"d40693e734e565c3", false, etctwo.H, "00378cffeac895ff6a4815ff62b7ffff6a4815ff62b7ffffeac895ff00378cff62b7ffff00378cff00378cff6a4815ffeac895ff00378cffeac895ffeac895ff"},
		{"7515da02d1c3db72", false, etctwo.H, "c14a06ffe8b52dffb53e00ffb53e00ffb53e00ffe8b52dffe8b52dfff4c139fff4c139ffb53e00fff4c139ffb53e00fff4c139ffc14a06ffe8b52dffb53e00ff"},
		{"b97ef3960e121f10", false, etctwo.Planar, "71ff5dff5fc348ff4d8733ff3a4a1dff65fe56ff53c141ff41852cff2e4916ff59fc4fff47c03aff358425ff22470fff4dfb48ff3bbe33ff29821eff164608ff"},
		{"9a34f313fe5180e7", false, etctwo.Planar, "343459ff30674dff2c9a41ff28cc34ff33296aff2f5b5eff2b8e52ff27c146ff321d7cff2e506fff2a8363ff26b557ff31128dff2d4481ff297774ff25aa68ff"},
		{"bc629320c8d2b1b1", true, etctwo.Halves, "ce74a5ffac5283ffa47bb5ffa47bb5ff00000000ce74a5ff9c73adffa47bb5ffbd6394ff000000009c73adff00000000bd6394ffac5283ff00000000946ba5ff"},
		{"2c9df479975bc3c0", true, etctwo.Halves, "00000000000000000072cdff0000000000000000299cf7ff0072cdff299cf7ff0884d6ff001a6cff0000000072eeffff0000000072eeffff0884d6ff001a6cff"},
		{"9fc8d3ba4c509454", true, etctwo.Halves, "b4e6eeff4c7e86ffb5effffffeffffffb4e6eeffb4e6eeffb5efffffb5efffffecffffff4c7e86ff2a6485ff73adceffb4e6eeffb4e6eeff73adcefffeffffff"},
		{"f9601b24c4dfdb49", true, etctwo.T, "06b017ff000000001cc62dff1cc62dff00000000dd6600ff1cc62dffdd6600ff0000000006b017ff0000000006b017ff06b017ff000000001cc62dff06b017ff"},
		{"f3e2c96537c5632a", true, etctwo.T, "00000000bbee22ffbc8956ff00000000dca976ffdca976ffbc8956ffbc8956ff000000000000000000000000dca976ffdca976ff00000000bbee22ffbbee22ff"},
		{"04aacf8eaf1ff09b", true, etctwo.T, "a3d65fffa3d65fffccff88fff5ffb1ffa3d65fff00aaaaffccff88ffa3d65fffccff88ff00aaaaffccff88fff5ffb1ffa3d65ffff5ffb1ffccff88ffa3d65fff"},
		{"c7f98755b318d18e", true, etctwo.H, "c8fffbff0000000000ae6aff00ae6aff48bf7bffc8fffbff000000000000000048bf7bffc8fffbffc8fffbff48bf7bff00ae6aff48bf7bffc8fffbff00ae6aff"},
		{"71079000c79ee15f", true, etctwo.H, "e81c71ff1c0000ff1c0000fff4287dff1c0000fff4287dff00000000e81c71ff1c0000ffe81c71ff000000001c0000ff1c0000ff00000000f4287dff1c0000ff"},
		{"7515da02d1c3db72", true, etctwo.H, "c14a06ffe8b52dffb53e00ffb53e00ffb53e00ffe8b52dffe8b52dfff4c139fff4c139ffb53e00fff4c139ffb53e00fff4c139ffc14a06ffe8b52dffb53e00ff"},
		{"87e90cb46d8ef93e", true, etctwo.Planar, "0ce9a6ff23caaeff3babb7ff528bbfff41e1bbff58c2c4ff6fa3ccff8783d4ff76d9d1ff8dbad9ffa49be1ffbb7be9ffaad1e6ffc2b2eeffd993f6fff073ffff"},
		{"912cf9f45acf901b", true, etctwo.Planar, "20ad6dff53986bff868469ffb86f67ff55a26dff888d6bffba7969ffed6467ff8a976dffbc826bffef6e69ffff5967ffbe8c6dfff1776bffff6369ffff4e67ff"},
		{"9a34f313fe5180e7", true, etctwo.Planar, "343459ff30674dff2c9a41ff28cc34ff33296aff2f5b5eff2b8e52ff27c146ff321d7cff2e506fff2a8363ff26b557ff31128dff2d4481ff297774ff25aa68ff"},
	} {
		b := bytesOf(t, c.block)
		u, e := etctwo.Decode(b, c.punch)
		var l []byte
		for _, x := range u {
			l = append(l, byte(x[0]), byte(x[1]), byte(x[2]), byte(x[3]))
		}
		if kind := etctwo.Kind(b, c.punch); kind != c.kind || e != api.OK || hex.EncodeToString(l) != c.texels {
			t.Errorf("%s, %t: kind %d, %d, %x, not %d, %s", c.block, c.punch, kind, e, l, c.kind, c.texels)
		}
	}
}

func TestPlaneExamples(t *testing.T) { // P11.2: planes that rise and fall, below 0 and above 255, with alphas that say nothing
	zero, full := api.Texel{}, api.Texel{255, 255, 255, 255}
	if u := etctwo.Plane(zero, zero, zero); u != alike(api.Texel{0, 0, 0, 255}) {
		t.Errorf("black: %v", u)
	}
	if u := etctwo.Plane(full, full, full); u != alike(api.Texel{255, 255, 255, 255}) {
		t.Errorf("white: %v", u)
	}
	u := etctwo.Plane(api.Texel{0, 255, 100, 9}, api.Texel{255, 0, 0, 8}, api.Texel{0, 255, 0, 7})
	want := api.Tile{
		{0, 255, 100, 255}, {64, 191, 75, 255}, {128, 128, 50, 255}, {191, 64, 25, 255},
		{0, 255, 75, 255}, {64, 191, 50, 255}, {128, 128, 25, 255}, {191, 64, 0, 255},
		{0, 255, 50, 255}, {64, 191, 25, 255}, {128, 128, 0, 255}, {191, 64, 0, 255},
		{0, 255, 25, 255}, {64, 191, 0, 255}, {128, 128, 0, 255}, {191, 64, 0, 255},
	}
	if u != want {
		t.Errorf("%v, not %v", u, want)
	}
	u = etctwo.Plane(api.Texel{0, 10, 2, 0}, api.Texel{255, 9, 1, 0}, api.Texel{255, 11, 0, 0})
	want = api.Tile{
		{0, 10, 2, 255}, {64, 10, 2, 255}, {128, 10, 2, 255}, {191, 9, 1, 255},
		{64, 10, 2, 255}, {128, 10, 1, 255}, {191, 10, 1, 255}, {255, 10, 1, 255},
		{128, 11, 1, 255}, {191, 10, 1, 255}, {255, 10, 1, 255}, {255, 10, 0, 255},
		{191, 11, 1, 255}, {255, 11, 0, 255}, {255, 10, 0, 255}, {255, 10, 0, 255},
	}
	if u != want {
		t.Errorf("%v, not %v", u, want)
	}
}

func TestPlane(t *testing.T) { // P11.2: each three of some numbers, in each channel
	l := []int{0, 1, 2, 3, 4, 63, 64, 126, 127, 128, 200, 253, 254, 255, 256, 1000, 2047, -1, -2, -7, -300, 1 << 17, -1 << 17}
	for i, o := range l {
		for j, h := range l {
			for k, v := range l {
				x, y, z := l[(i+5)%len(l)], l[(j+7)%len(l)], l[(k+9)%len(l)]
				a, b, c := api.Texel{o, x, y, z}, api.Texel{h, y, z, x}, api.Texel{v, z, x, y}
				if u := etctwo.Plane(a, b, c); u != plane(a, b, c) {
					t.Errorf("Plane(%v, %v, %v) = %v, not %v", a, b, c, u, plane(a, b, c))
				}
			}
		}
	}
}

// layOf is the planar block of such colours.
func layOf(o, h, v [3]int) []byte {
	b := make([]byte, 8)
	for i, numbers := range [3][3]int{o, h, v} {
		for c, n := range numbers {
			put(b, n, bitsPlanar[i][c])
		}
	}
	put(b, 1, []int{30})
	keep(b, 0)
	keep(b, 1)
	overflow(b, 2)
	return b
}

// wideOf is a colour of 6, 7 and 6 bits.
func wideOf(l [3]int) api.Texel {
	return api.Texel{wide(l[0], 6), wide(l[1], 7), wide(l[2], 6), 255}
}

// checkLay holds Lay's block of such colours against what the chapter asks of it.
func checkLay(t *testing.T, o, h, v [3]int) {
	t.Helper()
	want := layOf(o, h, v)
	b, e := etctwo.Lay(o, h, v)
	if e != api.OK || !slices.Equal(b, want) {
		t.Fatalf("Lay(%v, %v, %v) = %x, %d, not %x", o, h, v, b, e, want)
	}
	tile := etctwo.Plane(wideOf(o), wideOf(h), wideOf(v))
	for _, punch := range []bool{false, true} {
		if kind := etctwo.Kind(b, punch); kind != etctwo.Planar {
			t.Errorf("Lay(%v, %v, %v): kind %d", o, h, v, kind)
		}
		if u, e := etctwo.Decode(b, punch); e != api.OK || u != tile {
			t.Errorf("Lay(%v, %v, %v): %v, %d, not %v", o, h, v, u, e, tile)
		}
	}
}

func TestLayExamples(t *testing.T) { // P11.2: blocks written out
	zero, full := [3]int{}, [3]int{63, 127, 63}
	for _, c := range []struct {
		o, h, v [3]int
		block   string
	}{
		{zero, zero, zero, "0000040200000000"},
		{full, full, full, "7f7ffbffffffffff"},
		{full, zero, zero, "7f7ffb8200000000"},
		{zero, full, zero, "0000047ffff80000"},
		{zero, zero, full, "000004020007ffff"},
		{[3]int{2, 0, 0}, zero, zero, "8400040200000000"},                  // bits 5 to 7 are -4
		{[3]int{3, 0, 0}, zero, zero, "8600040200000000"},                  // -2
		{[3]int{6, 0, 0}, zero, zero, "8c00040200000000"},                  // 1 - 4
		{[3]int{14, 0, 0}, zero, zero, "9c00040200000000"},                 // 3 - 4
		{[3]int{18, 0, 0}, zero, zero, "2400040200000000"},                 // 4 - 4
		{[3]int{3, 64, 0}, zero, zero, "8700040200000000"},                 // -1
		{[3]int{7, 64, 0}, zero, zero, "0f00040200000000"},                 // 1 - 1
		{[3]int{0, 2, 0}, zero, zero, "0084040200000000"},                  // -4, in green
		{[3]int{0, 3, 0}, zero, zero, "0086040200000000"},                  // -2
		{[3]int{0, 18, 0}, zero, zero, "0024040200000000"},                 // 4 - 4
		{[3]int{0, 3, 32}, zero, zero, "0087040200000000"},                 // -1
		{[3]int{2, 2, 0}, zero, zero, "8484040200000000"},                  // both
		{[3]int{0, 0, 24}, zero, zero, "00001c0200000000"},                 // 3 and 0
		{[3]int{0, 0, 26}, zero, zero, "0000f90200000000"},                 // 3 and 1
		{[3]int{0, 0, 6}, zero, zero, "0000070200000000"},                  // 0 and 3
		{[3]int{0, 0, 14}, zero, zero, "0000eb0200000000"},                 // 1 and 3
		{[3]int{0, 0, 20}, zero, zero, "0000f20200000000"},                 // 2 and 2
		{[3]int{0, 0, 18}, zero, zero, "0000150200000000"},                 // 2 and 1
		{[3]int{0, 0, 30}, zero, zero, "0000fb0200000000"},                 // 3 and 3
		{[3]int{0, 0, 1}, zero, zero, "0000048200000000"},                  // the lowest bit
		{zero, [3]int{1, 1, 1}, [3]int{1, 1, 1}, "0000040302082041"},       // the lowest bits
		{zero, [3]int{32, 64, 32}, [3]int{32, 64, 32}, "0000044281041020"}, // the highest bits
	} {
		if b, e := etctwo.Lay(c.o, c.h, c.v); e != api.OK || hex.EncodeToString(b) != c.block {
			t.Errorf("Lay(%v, %v, %v) = %x, %d, not %s", c.o, c.h, c.v, b, e, c.block)
		}
		checkLay(t, c.o, c.h, c.v)
	}
}

func TestLayZeros(t *testing.T) { // P11.2, P11.3: the chapter's example
	b, e := etctwo.Lay([3]int{}, [3]int{}, [3]int{})
	if e != api.OK {
		t.Fatal(e)
	}
	for _, punch := range []bool{false, true} {
		if u, e := etctwo.Decode(b, punch); e != api.OK || u != alike(api.Texel{0, 0, 0, 255}) {
			t.Errorf("%t: %v, %d", punch, u, e)
		}
	}
}

func TestLay(t *testing.T) { // P11.2, P11.3: each red with each green, each green with each blue, each number of H and V
	h, v := [3]int{21, 85, 42}, [3]int{42, 42, 21}
	for red := range 64 {
		for green := range 128 {
			checkLay(t, [3]int{red, green, (red + green) % 64}, h, v)
		}
	}
	for green := range 128 {
		for blue := range 64 {
			checkLay(t, [3]int{(3*green + blue) % 64, green, blue}, v, h)
		}
	}
	for n := range 128 {
		for k := range 3 {
			l := [3]int{k % 2 * 63, k % 2 * 127, k / 2 * 63}
			l[k] = n
			if k == 1 || n < 64 {
				checkLay(t, l, h, v)
				checkLay(t, h, l, v)
				checkLay(t, h, v, l)
			}
		}
	}
	next := mixer(11)
	for range 5000 {
		var l [3][3]int
		for i := range l {
			l[i] = [3]int{next(64), next(128), next(64)}
		}
		checkLay(t, l[0], l[1], l[2])
	}
}

func TestWrongLay(t *testing.T) { // P11.2, R1
	for i := range 3 {
		for c, wrong := range [3][]int{{-1, 64, 65, 127, 128}, {-1, 128, 129, 255}, {-1, 64, 65, 127, 128}} {
			for _, n := range append(wrong, far...) {
				for _, rest := range [][3]int{{}, {63, 127, 63}} {
					l := [3][3]int{rest, rest, rest}
					l[i][c] = n
					if b, e := etctwo.Lay(l[0], l[1], l[2]); len(b) != 0 || e != api.ErrArg {
						t.Errorf("Lay%v = %x, %d", l, b, e)
					}
				}
			}
		}
	}
	for _, n := range far {
		if b, e := etctwo.Lay([3]int{n, n, n}, [3]int{n, n, n}, [3]int{n, n, n}); len(b) != 0 || e != api.ErrArg {
			t.Errorf("Lay of %d everywhere: %x, %d", n, b, e)
		}
	}
}

func TestAsLayerTen(t *testing.T) { // P11.3: without punch, blocks without Diff and of the kind Halves
	for seed := range 4000 {
		for _, kind := range allKinds {
			for diff := range 2 {
				b := ofKind(seed, kind, diff)
				if diff == 1 && kind != etctwo.Halves {
					continue
				}
				u, e := etctwo.Decode(b, false)
				if w, f := etcone.Decode(b); e != f || u != w {
					t.Errorf("Decode(%x, false) = %v, %d; in layer 10 %v, %d", b, u, e, w, f)
				}
			}
		}
	}
}

func TestOpaque(t *testing.T) { // P11.3: opaque blocks with and without punch, and where those that are not have no colour
	for seed := range 4000 {
		for _, kind := range allKinds {
			b := ofKind(seed, kind, 1)
			u, e := etctwo.Decode(b, false)
			if w, f := etctwo.Decode(b, true); e != api.OK || f != api.OK || u != w {
				t.Errorf("%x: %v, %d; with punch %v, %d", b, u, e, w, f)
			}
			b[3] &^= 2
			w, _ := etctwo.Decode(b, true)
			for i, x := range w {
				index := indexOf(b, i)
				switch {
				case kind == etctwo.Planar:
					if x != u[i] {
						t.Errorf("%x, planar: texel %d is %v", b, i, x)
					}
				case index == 2:
					if x != (api.Texel{}) {
						t.Errorf("%x: texel %d is %v", b, i, x)
					}
				case kind != etctwo.Halves || index != 0:
					if x != u[i] {
						t.Errorf("%x: texel %d is %v, not %v", b, i, x, u[i])
					}
				}
			}
		}
	}
}

func TestWrongSizes(t *testing.T) { // P11.1, R1, R2
	l := [][]byte{nil}
	for _, size := range wrongSizes {
		l = append(l, make([]byte, size), slices.Repeat([]byte{255}, size), make([]byte, size, size+8), slices.Repeat([]byte{7}, size))
	}
	for _, b := range l {
		for _, punch := range []bool{false, true} {
			if kind := etctwo.Kind(b, punch); kind != etctwo.Halves {
				t.Errorf("Kind of %d bytes: %d", len(b), kind)
			}
			if u, e := etctwo.Decode(b, punch); u != (api.Tile{}) || e != api.ErrArg {
				t.Errorf("Decode of %d bytes: %v, %d", len(b), u, e)
			}
		}
	}
}

func TestNothingPanics(t *testing.T) { // P0: colours as great as these must not stop the program
	for _, n := range far {
		for _, m := range far {
			etctwo.Plane(api.Texel{n, m, n, m}, api.Texel{m, m, n, n}, api.Texel{n, n, m, m})
			etctwo.Lay([3]int{n, m, 0}, [3]int{0, n, m}, [3]int{m, 0, n})
		}
	}
}

func TestNothingShared(t *testing.T) { // R3
	for _, block := range blocks() {
		long := slices.Repeat(block, 3)
		kept, b := slices.Clone(long), long[8:16]
		for _, punch := range []bool{false, true} {
			etctwo.Kind(b, punch)
			etctwo.Decode(b, punch)
		}
		if !slices.Equal(long, kept) {
			t.Errorf("%x has become %x", kept, long)
		}
	}
	o, h, v := [3]int{1, 2, 3}, [3]int{4, 5, 6}, [3]int{7, 8, 9}
	first, _ := etctwo.Lay(o, h, v)
	second, _ := etctwo.Lay(o, h, v)
	clear(first)
	if !slices.Equal(second, layOf(o, h, v)) {
		t.Errorf("Lay's answers share memory: %x", second)
	}
}

func TestManyAtOnce(t *testing.T) { // R4, R5
	shared := blocks()
	var all sync.WaitGroup
	for range 8 {
		all.Go(func() {
			for i, b := range shared {
				for _, punch := range []bool{false, true} {
					if u, e := etctwo.Decode(b, punch); e != api.OK || u != tileOf(b, punch) || etctwo.Kind(b, punch) != kindOf(b, punch) {
						t.Errorf("block %d: %v, %d", i, u, e)
					}
				}
				o, h, v := [3]int{i % 64, i % 128, i % 61}, [3]int{i % 59, i % 101, i % 31}, [3]int{i % 37, i % 97, i % 64}
				if l, e := etctwo.Lay(o, h, v); e != api.OK || !slices.Equal(l, layOf(o, h, v)) {
					t.Errorf("Lay %d: %x, %d", i, l, e)
				}
			}
		})
	}
	all.Wait()
}
