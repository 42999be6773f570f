package format_test

import (
	"encoding/hex"
	"math"
	"slices"
	"strconv"
	"strings"
	"sync"
	"testing"

	"swatch/api"
	"swatch/bcfour"
	"swatch/bcone"
	"swatch/bcseven"
	"swatch/eac"
	"swatch/etcone"
	"swatch/etctwo"
	"swatch/field"
	"swatch/format"
	"swatch/image"
	"swatch/level"
)

// far are numbers at the ends of the range of int, and numbers of which some low bits are those of small ones.
var far = []int{math.MinInt, math.MinInt + 1, -1 << 62, -1 << 48, -1 << 32, -1<<32 + 1, -1 << 31, -1 << 16, -257, -256, -255, -16, -3, 16, 17, 24, 257, 1 << 16, 1 << 31, 1 << 32, 1<<32 + 1, 1<<32 + 12, 1 << 48, 1 << 62, math.MaxInt - 1, math.MaxInt}

// most is the greatest number that the promises of Bytes speak of.
const most = 1<<31 - 1

// row is a format as the chapter's table tells it; a code of 0 is none.
type row struct {
	format, bytes, mask int
	wide                bool
	dds, ktx            int
}

// rows are the chapter's table, written out.
var rows = []row{
	{1, 8, 7, false, 71, 33776},
	{2, 16, 15, false, 74, 33778},
	{3, 16, 15, false, 77, 33779},
	{4, 8, 1, false, 80, 36283},
	{5, 16, 3, false, 83, 36285},
	{6, 16, 15, false, 98, 36492},
	{7, 8, 7, false, 0, 36196},
	{8, 8, 7, false, 0, 37492},
	{9, 8, 15, false, 0, 37494},
	{10, 16, 15, false, 0, 37496},
	{11, 8, 1, true, 0, 37488},
	{12, 16, 3, true, 0, 37490},
}

// noFormats are numbers that are none.
func noFormats() []int {
	return append([]int{-1, -2, 0, 13, 14, 71, 33776}, far...)
}

// noFiles are numbers that are no kind of file.
func noFiles() []int {
	return append([]int{-1, -2, 0, 3, 4, 71, 33776}, far...)
}

// mixed are bytes that look without order but are the same each time.
func mixed(seed, many int) []byte {
	state := uint32(seed)*2654435761 + 12345
	b := make([]byte, many)
	for i := range b {
		state = state*1664525 + 1013904223
		b[i] = byte(state >> 16)
	}
	return b
}

// mixedTile is a tile of numbers from 0 to 255 that look without order.
func mixedTile(seed int) api.Tile {
	var t api.Tile
	for i, n := range mixed(seed, 64) {
		t[i/4][i%4] = int(n)
	}
	return t
}

// blocks are some of a format: those of which all bits are equal, mixed ones, and ones whose first bits go through all of 8.
func blocks(x row) [][]byte {
	l := [][]byte{make([]byte, x.bytes), slices.Repeat([]byte{255}, x.bytes)}
	for seed := range 300 {
		l = append(l, mixed(seed, x.bytes))
	}
	for first := range 256 {
		b := mixed(1000+first, x.bytes)
		b[0] = byte(first)
		b[x.bytes-8] = byte(first)
		l = append(l, b)
	}
	return l
}

// tileOf are texels of four channels, each of 16 numbers.
func tileOf(red, green, blue, alpha [16]int) api.Tile {
	var t api.Tile
	for i := range t {
		t[i] = api.Texel{red[i], green[i], blue[i], alpha[i]}
	}
	return t
}

// alphaOf is a tile with another alpha.
func alphaOf(t api.Tile, alpha [16]int) api.Tile {
	for i := range t {
		t[i][3] = alpha[i]
	}
	return t
}

// alike are 16 times the same number.
func alike(n int) [16]int {
	return [16]int(slices.Repeat([]int{n}, 16))
}

// sure is a result of a call that answers no error.
func sure[T any](x T, e api.Errno) T {
	if e != api.OK {
		panic(e)
	}
	return x
}

// texelsOf are a block's, as the chapter's table tells them.
func texelsOf(x row, b []byte) api.Tile {
	first, last := b[:8], b[len(b)-8:]
	zero := alike(0)
	switch x.format {
	case 1:
		return sure(bcone.Decode(b, false))
	case 2:
		return alphaOf(sure(bcone.Decode(last, true)), sure(bcfour.Fours(first)))
	case 3:
		return alphaOf(sure(bcone.Decode(last, true)), sure(bcfour.Decode(first)))
	case 4:
		return tileOf(sure(bcfour.Decode(b)), zero, zero, alike(255))
	case 5:
		return tileOf(sure(bcfour.Decode(first)), sure(bcfour.Decode(last)), zero, alike(255))
	case 6:
		return sure(bcseven.Decode(b))
	case 7:
		return sure(etcone.Decode(b))
	case 8:
		return sure(etctwo.Decode(b, false))
	case 9:
		return sure(etctwo.Decode(b, true))
	case 10:
		return alphaOf(sure(etctwo.Decode(last, false)), sure(eac.Decode(first, false)))
	case 11:
		return tileOf(sure(eac.Decode(b, true)), zero, zero, alike(2047))
	}
	return tileOf(sure(eac.Decode(first, true)), sure(eac.Decode(last, true)), zero, alike(2047))
}

// scaleOf is a tile as a format keeps it; its numbers are not negative.
func scaleOf(x row, t api.Tile) api.Tile {
	for i := range t {
		for c := range 4 {
			if x.wide {
				t[i][c] = 8*t[i][c] + t[i][c]/32
			}
		}
	}
	return t
}

// errorOf is how far two tiles are from one another, in the channels that a format stores.
func errorOf(x row, t, u api.Tile) int {
	sum := 0
	for i := range t {
		for c, bit := range []int{1, 2, 4, 8} {
			if x.mask&bit != 0 {
				sum += (t[i][c] - u[i][c]) * (t[i][c] - u[i][c])
			}
		}
	}
	return sum
}

// read is a tile written as 16 words, of 3 hexadecimal digits for each channel.
func read(t *testing.T, s string) api.Tile {
	t.Helper()
	var out api.Tile
	for i, word := range strings.Fields(s) {
		for c := range 4 {
			n, err := strconv.ParseUint(word[3*c:3*c+3], 16, 12)
			if err != nil {
				t.Fatal(err)
			}
			out[i][c] = int(n)
		}
	}
	return out
}

// bytesOf are the bytes that a text tells.
func bytesOf(t *testing.T, s string) []byte {
	t.Helper()
	b, err := hex.DecodeString(s)
	if err != nil {
		t.Fatal(err)
	}
	return b
}

func TestOf(t *testing.T) { // P13.1
	for _, x := range rows {
		want := format.Info{Bytes: x.bytes, Mask: x.mask, Wide: x.wide}
		if info, e := format.Of(x.format); e != api.OK || info != want {
			t.Errorf("Of(%d) = %v, %d, not %v", x.format, info, e, want)
		}
	}
	for _, n := range noFormats() { // and R1
		if info, e := format.Of(n); e != api.ErrFormat || info != (format.Info{}) {
			t.Errorf("Of(%d) = %v, %d", n, info, e)
		}
	}
}

func TestDecode(t *testing.T) { // P13.1
	for _, x := range rows {
		for _, b := range blocks(x) {
			if u, e := format.Decode(x.format, b); e != api.OK || u != texelsOf(x, b) {
				t.Errorf("Decode(%d, %x) = %v, %d, not %v", x.format, b, u, e, texelsOf(x, b))
			}
		}
	}
}

func TestDecodeBlocks(t *testing.T) { // P13.1: blocks and their texels, written out
	for _, c := range []struct {
		format        int
		block, texels string
	}{
		{api.BC1, "ba380eeb37ff3e17", "000000000000 0ef0610730ff 000000000000 0390140d60ff 000000000000 000000000000 000000000000 000000000000 09403a0a40ff 000000000000 000000000000 0390140d60ff 000000000000 0ef0610730ff 0ef0610730ff 0390140d60ff"},
		{api.BC1, "a97081d089337446", "0d60100080ff 0a40120290ff 07301404a0ff 0a40120290ff 000000000000 07301404a0ff 000000000000 07301404a0ff 07301404a0ff 0d60100080ff 000000000000 0d60100080ff 0a40120290ff 0d60100080ff 07301404a0ff 0d60100080ff"},
		{api.BC2, "e388d0563c906588318d6724ee45f3d6", "06809e070033 0440960540ee 06809e070088 044096054088 02108e039000 02108e0390dd 08c0a608c066 02108e039055 0440960540cc 08c0a608c033 044096054000 044096054099 06809e070055 02108e039066 02108e039088 044096054088"},
		{api.BC2, "edced2930496b041bfa68c9cf1247055", "09c0920630dd 0a50d70ff0ee 09f0a90970ee 09f0a90970cc 0a50d70ff022 09c0920630dd 0a20c00cb033 0a50d70ff099 0a50d70ff044 0a50d70ff000 09f0a9097066 09c092063099 09c092063000 09c0920630bb 09c092063011 09c092063044"},
		{api.BC3, "60e1551709f9bad94e068c055bcee847", "0000ba0680c7 0000c206d079 0000b20630c7 0000b2063093 0000c206d0e1 0000ba068079 0000cb073079 0000ba068060 0000cb0730e1 0000c206d0ff 0000c206d093 0000ba0680c7 0000ba068093 0000b2063093 0000cb073000 0000b2063000"},
		{api.BC3, "aa679794113f45d21c5ff1bd9eeda506", "07b0d60c8070 09c0ca0aa0a0 0bd0be08c0a0 07b0d60c80a0 0bd0be08c067 09c0ca0aa096 07b0d60c808d 09c0ca0aa0aa 0bd0be08c070 0bd0be08c070 07b0d60c808d 07b0d60c80a0 07b0d60c808d 0bd0be08c08d 05a0e30e708d 05a0e30e707a"},
		{api.BC4, "42272b5e0895e272", "03a0000000ff 0320000000ff 0420000000ff 02a0000000ff 0320000000ff 0420000000ff 03e0000000ff 0420000000ff 0320000000ff 03e0000000ff 03e0000000ff 0270000000ff 02e0000000ff 0320000000ff 0360000000ff 03a0000000ff"},
		{api.BC4, "412e2d93699aa9f1", "0360000000ff 0360000000ff 0380000000ff 02e0000000ff 02e0000000ff 03b0000000ff 03e0000000ff 03b0000000ff 03e0000000ff 03b0000000ff 0330000000ff 0380000000ff 03e0000000ff 03b0000000ff 0380000000ff 0300000000ff"},
		{api.BC5, "1b661c38bd1739527a3c44577f9b57f1", "04805f0000ff 03907a0000ff 01b0560000ff 0480680000ff 0390560000ff 02a04d0000ff 0ff0440000ff 0570680000ff 0ff0680000ff 02a0680000ff 04804d0000ff 0480680000ff 0390560000ff 0480710000ff 04805f0000ff 02a0440000ff"},
		{api.BC5, "454c3f16a4bda4ac27f5886ea11bf40f", "0ff0270000ff 0ff0f50000ff 0450500000ff 0470ff0000ff 04c0000000ff 0450500000ff 04c0270000ff 04a0cb0000ff 04a0790000ff 0ff0790000ff 0460270000ff 0460500000ff 0460ff0000ff 04c0ff0000ff 0470790000ff 04a0270000ff"},
		{api.BC7, "ed693a5a6640b8862579bb6085eafc60", "0b303004c0ff 07d0350420ff 01802909c0ff 01802909c0ff 0b303004c0ff 07d0350420ff 01802909c0ff 04d0550a80ff 0ad0140550ff 0c600e03f0ff 04902b0b00ff 0de0080290ff 0de0080290ff 0310310c60ff 09501906b0ff 04902b0b00ff"},
		{api.BC7, "373e7f1df41860107278ee969a5bf73a", "03801f0450ff 0ff0ad08c0ff 0e90ba07f0ff 0cb0080630ff 0590360500ff 0be07f0750ff 0a207f0150ff 0e80080b90ff 0be07f0750ff 0be07f0750ff 0e90ba07f0ff 0e10080a40ff 0ff0ad08c0ff 0590360500ff 0f70c60940ff 0bd0080390ff"},
		{api.ETC1, "aaf5e7e4c2628740", "0d90ff0ff0ff 0d90ff0ff0ff 0bb0660880ff 0af05a07c0ff 07b0d00bf0ff 07b0d00bf0ff 0990440660ff 0af05a07c0ff 0d90ff0ff0ff 0000480370ff 0bb0660880ff 0a50500720ff 0d90ff0ff0ff 0d90ff0ff0ff 0af05a07c0ff 0990440660ff"},
		{api.ETC1, "74751f2e5c44a967", "0840840290ff 07807801d0ff 07c08403a0ff 04504d0030ff 0840840290ff 0840840290ff 05f06701d0ff 07c08403a0ff 0620620070ff 0620620070ff 04504d0030ff 04504d0030ff 07807801d0ff 07807801d0ff 0280300000ff 07c08403a0ff"},
		{api.ETC2, "8053f682e88ba775", "0480160bb0ff 0c008e0ff0ff 08c0730ef0ff 08606d0e90ff 0720400e50ff 0c008e0ff0ff 08c0730ef0ff 07c0630df0ff 0c008e0ff0ff 0c008e0ff0ff 08c0730ef0ff 0820690e50ff 0720400e50ff 0720400e50ff 0820690e50ff 07c0630df0ff"},
		{api.ETC2, "148b096e3f89b843", "00007003d0ff 0880880bb0ff 0000990660ff 00007003d0ff 0290c208f0ff 0880880bb0ff 0000990660ff 00007003d0ff 0880880bb0ff 0290c208f0ff 0000990660ff 0880880bb0ff 0000990660ff 0000990660ff 00007003d0ff 0290c208f0ff"},
		{api.ETC2A1, "a7c1d5af5ec4963b", "0f50ff0ff0ff 0f50ff0ff0ff 0bd0de0ee0ff 0550760860ff 0f50ff0ff0ff 0f50ff0ff0ff 0550760860ff 0bd0de0ee0ff 08f0c10b00ff 08f0c10b00ff 0720a40930ff 08f0c10b00ff 0c60f80e70ff 08f0c10b00ff 08f0c10b00ff 0c60f80e70ff"},
		{api.ETC2A1, "03b1c33d72df97ae", "000000000000 000000000000 0110c60d70ff 0000a40b50ff 0000a40b50ff 0110c60d70ff 0000a40b50ff 000000000000 0000060270ff 000000000000 0cf0ff0ff0ff 000000000000 0000060270ff 0000060270ff 0180bd0de0ff 0cf0ff0ff0ff"},
		{api.ETC2A8, "1d3e846c240d569043e74d9cf54446aa", "0560ff056026 0560ff056032 0040480ae011 0040480ae002 0800ff08000b 0800ff080011 0ea0ff0ff002 0040480ae005 0320dc032011 0320dc032026 000000026005 000000026005 0800ff080032 0800ff080026 0620a60ff02c 0040480ae011"},
		{api.ETC2A8, "0b6e61ed5ea7de80c490296146c831b9", "0f60c304c000 0f60c304c035 0f60c304c029 0f60c304c03b 0d90a602f000 0f60c304c029 0bf08c015000 0f60c304c000 04600209b000 042000097000 04200009703b 042000097000 03c000091035 03c000091035 04600209b029 04600209b000"},
		{api.R11, "f96a52969fce44ea", "64c0000007ff 5ec0000007ff 7ff0000007ff 64c0000007ff 7fc0000007ff 64c0000007ff 5ec0000007ff 5ec0000007ff 7ff0000007ff 5ec0000007ff 7fc0000007ff 7ff0000007ff 70c0000007ff 7ff0000007ff 7fc0000007ff 64c0000007ff"},
		{api.R11, "b283d10beb3e1350", "6d40000007ff 6540000007ff 4940000007ff 4940000007ff 5d40000007ff 7ff0000007ff 7ff0000007ff 6540000007ff 4140000007ff 6540000007ff 5d40000007ff 4140000007ff 5140000007ff 2540000007ff 4940000007ff 5140000007ff"},
		{api.RG11, "60187003554774efe1e9cb1a5fd332fc", "2b47ff0007ff 2d47ff0007ff 2c47ff0007ff 2c44dc0007ff 30c38c0007ff 32c4dc0007ff 2d477c0007ff 2b42ac0007ff 2f47ff0007ff 2c42ac0007ff 33c7ff0007ff 32c7ff0007ff 2f44dc0007ff 32c7ff0007ff 34c2ac0007ff 34c77c0007ff"},
		{api.RG11, "7db0a92af724501d822c723507c9e1f9", "5a43740007ff 5a43a40007ff 1dc4740007ff 2e43e40007ff 0d44340007ff 0004340007ff 1dc3a40007ff 2e44a40007ff 0d44340007ff 6ac3e40007ff 2e43740007ff 0004a40007ff 0d43740007ff 7ff4a40007ff 5a44740007ff 5a43d40007ff"},
	} {
		if u, e := format.Decode(c.format, bytesOf(t, c.block)); e != api.OK || u != read(t, c.texels) {
			t.Errorf("Decode(%d, %s) = %v, %d, not %v", c.format, c.block, u, e, read(t, c.texels))
		}
	}
}

func TestWrongBlocks(t *testing.T) { // P13.1, R1: a block of another size, and no format, which is told first
	var tile api.Tile
	for many := range 70 {
		b := mixed(many, many)
		for _, x := range rows {
			if many == x.bytes {
				continue
			}
			if u, e := format.Decode(x.format, b); e != api.ErrArg || u != tile {
				t.Errorf("Decode of %d, %d bytes: %v, %d", x.format, many, u, e)
			}
			if n, e := format.Error(x.format, b, tile); e != api.ErrArg || n != 0 {
				t.Errorf("Error of %d, %d bytes: %d, %d", x.format, many, n, e)
			}
		}
		for _, n := range noFormats() {
			if u, e := format.Decode(n, b); e != api.ErrFormat || u != tile {
				t.Errorf("Decode of %d, %d bytes: %v, %d", n, many, u, e)
			}
			if n, e := format.Error(n, b, mixedTile(many)); e != api.ErrFormat || n != 0 {
				t.Errorf("Error of no format, %d bytes: %d, %d", many, n, e)
			}
		}
	}
	for _, x := range rows { // R2
		for _, b := range [][]byte{nil, {}} {
			if _, e := format.Decode(x.format, b); e != api.ErrArg {
				t.Errorf("Decode of %d, no bytes: %d", x.format, e)
			}
		}
	}
}

func TestScale(t *testing.T) { // P13.1: each number in each channel, and tiles of mixed ones
	for _, x := range rows {
		for n := range 256 {
			want := n
			if x.wide {
				want = 8*n + n/32
			}
			for c := range 4 {
				var u, w api.Tile
				u[n%16][c], w[n%16][c] = n, want
				if v := format.Scale(x.format, u); v != w {
					t.Errorf("Scale of %d, %d in channel %d: %v", x.format, n, c, v)
				}
			}
			u := mixedTile(n)
			if v := format.Scale(x.format, u); v != scaleOf(x, u) {
				t.Errorf("Scale(%d, %v) = %v", x.format, u, v)
			}
		}
	}
	for _, c := range []struct{ n, want int }{{0, 0}, {1, 8}, {31, 248}, {32, 257}, {127, 1019}, {128, 1028}, {254, 2039}, {255, 2047}} {
		if u := format.Scale(api.R11, api.Tile{15: {0, 0, 0, c.n}}); u != (api.Tile{15: {0, 0, 0, c.want}}) {
			t.Errorf("Scale of %d: %v", c.n, u[15])
		}
	}
}

func TestError(t *testing.T) { // P13.1
	for _, x := range rows {
		for seed, b := range blocks(x) {
			u, tile := texelsOf(x, b), mixedTile(seed)
			want := errorOf(x, scaleOf(x, tile), u)
			if n, e := format.Error(x.format, b, tile); e != api.OK || n != want {
				t.Errorf("Error(%d, %x) of tile %d = %d, %d, not %d", x.format, b, seed, n, e, want)
			}
			if n := level.Error(format.Scale(x.format, tile), u, x.mask); n != want {
				t.Errorf("format %d, tile %d: layer 3 has the error %d, not %d", x.format, seed, n, want)
			}
		}
	}
}

func TestErrorOfChannels(t *testing.T) { // P13.1: the channels that a format stores count, and no other
	for _, x := range rows {
		b := mixed(x.format, x.bytes)
		tile := mixedTile(x.format)
		was, _ := format.Error(x.format, b, tile)
		for i := range 16 {
			for c := range 4 {
				changed := tile
				changed[i][c] ^= 128
				before, after := scaleOf(x, tile)[i][c], scaleOf(x, changed)[i][c]
				has := texelsOf(x, b)[i][c]
				want := was
				if x.mask>>c&1 == 1 {
					want += (after-has)*(after-has) - (before-has)*(before-has)
				}
				if n, e := format.Error(x.format, b, changed); e != api.OK || n != want {
					t.Errorf("format %d, texel %d, channel %d: %d, %d, not %d", x.format, i, c, n, e, want)
				}
			}
		}
	}
}

func TestErrorZero(t *testing.T) { // P13.4: none if and only if all channels that the format stores are equal
	for _, x := range rows {
		some := 0
		for seed, b := range blocks(x) {
			tile := sure(format.Decode(x.format, b))
			if x.wide { // only some numbers of 11 bits are those of a tile's
				b = sure(eac.Join(seed%256, 0, 13, alike(4)))
				b = slices.Repeat(b, x.bytes/8)
				tile = api.Tile(slices.Repeat([]api.Texel{{seed % 256, seed % 256, 7, 9}}, 16))
			}
			equal := true
			for i, u := range sure(format.Decode(x.format, b)) {
				for c := range 4 {
					equal = equal && (x.mask>>c&1 == 0 || u[c] == scaleOf(x, tile)[i][c])
				}
			}
			if n, e := format.Error(x.format, b, tile); e != api.OK || (n == 0) != equal {
				t.Errorf("Error(%d, %x) of %v = %d, %d; equal: %t", x.format, b, tile, n, e, equal)
			}
			if equal {
				some++
			}
			i, c := seed%16, seed/16%4
			if tile[i][c] < 255 {
				tile[i][c]++
			} else {
				tile[i][c]--
			}
			stored := x.mask>>c&1 == 1
			if n, e := format.Error(x.format, b, tile); e != api.OK || equal && stored == (n == 0) {
				t.Errorf("Error(%d, %x), texel %d changed in channel %d: %d, %d", x.format, b, i, c, n, e)
			}
		}
		if some == 0 {
			t.Errorf("format %d: no tile was equal to its block", x.format)
		}
	}
}

func TestBytes(t *testing.T) { // P13.2
	sides := []int{1, 2, 3, 4, 5, 6, 7, 8, 9, 11, 12, 13, 63, 64, 65, 255, 256, 257, 1023, 4095, 4096, 4097, 10000, 32767, 65535, 65536, 65537, 1<<20 - 1, 1 << 20, 1<<28 - 3, 1 << 28, 1<<29 - 1, 1 << 29, 1<<30 - 5, 1<<30 - 4, 1<<30 - 3, 1 << 30, most - 1, most}
	for _, x := range rows {
		for _, w := range sides {
			for _, h := range sides {
				want, wanted := (w+3)/4*((h+3)/4)*x.bytes, api.OK
				if want > most { // it can't wrap round: at most 2^29 times 2^29 times 2^4
					want, wanted = 0, api.ErrOver
				}
				if n, e := format.Bytes(x.format, w, h); n != want || e != wanted {
					t.Errorf("Bytes(%d, %d, %d) = %d, %d, not %d, %d", x.format, w, h, n, e, want, wanted)
				}
			}
		}
	}
}

func TestBytesExamples(t *testing.T) { // P13.2: the chapter's example, and sizes about the greatest one
	for _, c := range []struct {
		format, w, h, want int
		e                  api.Errno
	}{
		{api.BC1, 5, 4, 16, api.OK},
		{api.BC1, 4, 4, 8, api.OK},
		{api.BC1, 1, 1, 8, api.OK},
		{api.BC7, 1, 1, 16, api.OK},
		{api.BC7, 4, 5, 32, api.OK},
		{api.R11, 9, 5, 48, api.OK},
		{api.RG11, 9, 5, 96, api.OK},
		{api.BC1, 1<<30 - 4, 4, 2147483640, api.OK},
		{api.BC1, 1<<30 - 3, 4, 0, api.ErrOver},
		{api.BC1, 4, 1<<30 - 4, 2147483640, api.OK},
		{api.BC1, 4, 1<<30 - 3, 0, api.ErrOver},
		{api.BC7, 1<<29 - 4, 1, 2147483632, api.OK},
		{api.BC7, 1<<29 - 3, 1, 0, api.ErrOver},
		{api.BC4, most, most, 0, api.ErrOver},
		{api.BC4, most, 1, 0, api.ErrOver},
		{api.BC4, 1, most, 0, api.ErrOver},
		{api.ETC1, 1 << 17, 1 << 16, 0, api.ErrOver},
		{api.ETC1, 1 << 16, 1 << 16, 0, api.ErrOver},
		{api.ETC1, 1 << 16, 1 << 15, 1 << 30, api.OK},
		{api.ETC1, 1 << 16, 1<<16 - 4, 2147352576, api.OK},
	} {
		if n, e := format.Bytes(c.format, c.w, c.h); n != c.want || e != c.e {
			t.Errorf("Bytes(%d, %d, %d) = %d, %d, not %d, %d", c.format, c.w, c.h, n, e, c.want, c.e)
		}
	}
}

func TestBytesWrong(t *testing.T) { // P13.2, R1: what is no format is told before what is no size
	for _, wrong := range []int{0, -1, -3, -4, -5, -8, math.MinInt, math.MinInt + 3, -1 << 32, -1<<32 + 4} {
		for _, other := range []int{-4, 0, 1, 4, 5, most} {
			for _, size := range [][2]int{{wrong, other}, {other, wrong}} {
				for _, x := range rows {
					if n, e := format.Bytes(x.format, size[0], size[1]); n != 0 || e != api.ErrArg {
						t.Errorf("Bytes(%d, %d, %d) = %d, %d", x.format, size[0], size[1], n, e)
					}
				}
				if n, e := format.Bytes(13, size[0], size[1]); n != 0 || e != api.ErrFormat {
					t.Errorf("Bytes(13, %d, %d) = %d, %d", size[0], size[1], n, e)
				}
			}
		}
	}
	for _, x := range noFormats() {
		for _, size := range []int{1, 4, most} {
			if n, e := format.Bytes(x, size, size); n != 0 || e != api.ErrFormat {
				t.Errorf("Bytes(%d, %d, %d) = %d, %d", x, size, size, n, e)
			}
		}
	}
}

func TestBytesOfLayersBelow(t *testing.T) { // P13.2: tiles of layer 4, and products of layer 1
	for w := 1; w < 40; w++ {
		for h := 1; h < 40; h++ {
			across, down := image.Tiles(w, h)
			for _, x := range rows {
				want, e := field.Times(across*down, x.bytes)
				if n, f := format.Bytes(x.format, w, h); n != want || f != e {
					t.Errorf("Bytes(%d, %d, %d) = %d, %d, not %d", x.format, w, h, n, f, want)
				}
			}
		}
	}
}

func TestCode(t *testing.T) { // P13.3
	for _, x := range rows {
		if n, e := format.Code(x.format, api.KTX); n != x.ktx || e != api.OK {
			t.Errorf("Code(%d, KTX) = %d, %d, not %d", x.format, n, e, x.ktx)
		}
		wanted := api.OK
		if x.dds == 0 {
			wanted = api.ErrTarget
		}
		if n, e := format.Code(x.format, api.DDS); n != x.dds || e != wanted {
			t.Errorf("Code(%d, DDS) = %d, %d, not %d, %d", x.format, n, e, x.dds, wanted)
		}
		for _, file := range noFiles() {
			if n, e := format.Code(x.format, file); n != 0 || e != api.ErrArg {
				t.Errorf("Code(%d, %d) = %d, %d", x.format, file, n, e)
			}
		}
	}
	for _, x := range noFormats() { // what is no format is told before what is no kind of file
		for _, file := range append(noFiles(), api.DDS, api.KTX) {
			if n, e := format.Code(x, file); n != 0 || e != api.ErrFormat {
				t.Errorf("Code(%d, %d) = %d, %d", x, file, n, e)
			}
		}
	}
}

func TestFormat(t *testing.T) { // P13.3: all numbers of 16 bits, and some beyond
	want := map[int]map[int]int{api.DDS: {}, api.KTX: {33777: api.BC1}}
	for _, x := range rows {
		want[api.KTX][x.ktx] = x.format
		if x.dds != 0 {
			want[api.DDS][x.dds] = x.format
		}
	}
	codes := slices.Clone(far)
	for code := -100; code < 1<<16+100; code++ {
		codes = append(codes, code)
	}
	for _, x := range rows { // their lowest 32 bits are those of codes
		codes = append(codes, x.ktx+1<<32, x.ktx+1<<16, x.ktx+math.MinInt, x.dds+1<<32, -x.ktx, -x.dds)
	}
	for _, file := range []int{api.DDS, api.KTX} {
		for _, code := range codes {
			x, wanted := want[file][code], api.OK
			if x == 0 {
				wanted = api.ErrFormat
			}
			if n, e := format.Format(code, file); n != x || e != wanted {
				t.Errorf("Format(%d, %d) = %d, %d, not %d, %d", code, file, n, e, x, wanted)
			}
		}
	}
}

func TestFormatOfNoFile(t *testing.T) { // P13.3, R1: what is no kind of file is told before what is no code
	for _, file := range noFiles() {
		for _, code := range []int{-1, 0, 1, 71, 98, 33776, 33777, 37490, math.MaxInt} {
			if n, e := format.Format(code, file); n != 0 || e != api.ErrArg {
				t.Errorf("Format(%d, %d) = %d, %d", code, file, n, e)
			}
		}
	}
}

func TestCodesAreFormats(t *testing.T) { // P13.4: each format has a code of its own, in each kind of file that has one
	for _, file := range []int{api.DDS, api.KTX} {
		owner := map[int]int{}
		for x := 1; x <= 12; x++ {
			code, e := format.Code(x, file)
			if e != api.OK {
				continue
			}
			if owner[code] != 0 {
				t.Errorf("kind of file %d: formats %d and %d have the code %d", file, owner[code], x, code)
			}
			owner[code] = x
			if n, e := format.Format(code, file); n != x || e != api.OK {
				t.Errorf("Format(%d, %d) = %d, %d, not %d", code, file, n, e, x)
			}
		}
		if many := map[int]int{api.DDS: 6, api.KTX: 12}[file]; len(owner) != many {
			t.Errorf("kind of file %d: %d codes, not %d", file, len(owner), many)
		}
	}
}

func TestLetters(t *testing.T) { // P13.3
	for s, want := range map[string]int{"DXT1": 1, "DXT3": 2, "DXT5": 3, "ATI1": 4, "BC4U": 4, "ATI2": 5, "BC5U": 5} {
		if n, e := format.Letters(s); n != want || e != api.OK {
			t.Errorf("Letters(%q) = %d, %d, not %d", s, n, e, want)
		}
		for _, other := range []string{strings.ToLower(s), s + " ", " " + s, s + "\x00", s[:3], s[1:], s + s, strings.Replace(s, s[:1], "X", 1)} {
			if n, e := format.Letters(other); n != 0 || e != api.ErrFormat {
				t.Errorf("Letters(%q) = %d, %d", other, n, e)
			}
		}
	}
	for _, s := range []string{"", "\x00\x00\x00\x00", "DXT0", "DXT2", "DXT4", "DXT6", "DX10", "BC4S", "BC5S", "BC1U", "ATI0", "ATI3", "ETC1", "ETC2", "RGBG", "dxt1", "DXt1", "1TXD", "U4CB", "ÄÖÜß", strings.Repeat("DXT1", 1000)} {
		if n, e := format.Letters(s); n != 0 || e != api.ErrFormat {
			t.Errorf("Letters(%q) = %d, %d", s, n, e)
		}
	}
}

func TestChannels(t *testing.T) { // P13.1, P13.4: what a format stores is from 0 to its greatest number; of what it does not store, only BC1 has an alpha other than the greatest one
	for _, x := range rows {
		greatest := 255
		if x.wide {
			greatest = 2047
		}
		for _, b := range blocks(x) {
			for i, u := range sure(format.Decode(x.format, b)) {
				for c, n := range u {
					if n < 0 || n > greatest {
						t.Errorf("format %d, block %x, texel %d, channel %d: %d", x.format, b, i, c, n)
					}
					if rest := []int{0, 0, 0, greatest}[c]; x.mask>>c&1 == 0 && n != rest && x.format != api.BC1 {
						t.Errorf("format %d, block %x, texel %d, channel %d, which it has not: %d", x.format, b, i, c, n)
					}
				}
			}
		}
	}
}

func TestNothingPanics(t *testing.T) { // P0: nor with numbers of which nothing is promised
	for _, x := range append(noFormats(), 1, 4, 6, 8, 9, 10, 11, 12) {
		for _, n := range append(noFiles(), 1, 2) {
			format.Of(x)
			format.Code(x, n)
			format.Format(n, x)
			format.Format(x, 1)
			format.Format(x, 2)
			format.Bytes(x, n, n)
			format.Bytes(x, n, 1)
			format.Bytes(x, 1, n)
			tile := api.Tile(slices.Repeat([]api.Texel{{n, -n, n, x}}, 16))
			format.Scale(x, tile)
			for _, many := range []int{0, 1, 7, 8, 9, 15, 16, 17} {
				format.Decode(x, make([]byte, many))
				format.Error(x, make([]byte, many), tile)
			}
		}
	}
}

func TestNothingShared(t *testing.T) { // R3
	for _, x := range rows {
		b := mixed(x.format, x.bytes)
		kept, tile := slices.Clone(b), mixedTile(x.format)
		u := sure(format.Decode(x.format, b))
		n := sure(format.Error(x.format, b, tile))
		format.Scale(x.format, tile)
		if !slices.Equal(b, kept) || tile != mixedTile(x.format) {
			t.Errorf("format %d: a call has changed its arguments", x.format)
		}
		clear(b)
		u[0][0] = -1
		if w := sure(format.Decode(x.format, kept)); w != texelsOf(x, kept) {
			t.Errorf("format %d: a call has kept what it was given", x.format)
		}
		if m := sure(format.Error(x.format, kept, tile)); m != n {
			t.Errorf("format %d: the error was %d, and is %d", x.format, n, m)
		}
	}
}

func TestLongerBlocks(t *testing.T) { // P13.1, R3: what stands behind a slice does not count
	for _, x := range rows {
		whole := mixed(x.format, 64)
		b := whole[5 : 5+x.bytes]
		if u, e := format.Decode(x.format, b); e != api.OK || u != texelsOf(x, slices.Clone(b)) {
			t.Errorf("format %d: %v, %d", x.format, u, e)
		}
	}
}

func TestManyAtOnce(t *testing.T) { // R4, R5: the same answers, however often and from wherever; maps have no order
	var all sync.WaitGroup
	for range 8 {
		all.Go(func() {
			for seed := range 100 {
				for _, x := range rows {
					b := mixed(seed, x.bytes)
					if u, e := format.Decode(x.format, b); e != api.OK || u != texelsOf(x, b) {
						t.Errorf("Decode(%d, %x) = %v, %d", x.format, b, u, e)
					}
					if n, e := format.Error(x.format, b, mixedTile(seed)); e != api.OK || n != errorOf(x, scaleOf(x, mixedTile(seed)), texelsOf(x, b)) {
						t.Errorf("Error(%d, %x) = %d, %d", x.format, b, n, e)
					}
					if n, e := format.Format(x.ktx, api.KTX); n != x.format || e != api.OK {
						t.Errorf("Format(%d, KTX) = %d, %d", x.ktx, n, e)
					}
					if n, e := format.Format(0, api.DDS); n != 0 || e != api.ErrFormat {
						t.Errorf("Format(0, DDS) = %d, %d", n, e)
					}
				}
			}
		})
	}
	all.Wait()
}
