package image_test

import (
	"math"
	"slices"
	"sync"
	"testing"

	"swatch/api"
	"swatch/image"
)

// most is the greatest width and height.
const most = 4096

// sizes are valid: of one texel, multiples of 4 and not, and the widest and highest ones.
var sizes = [][2]int{{1, 1}, {1, 2}, {2, 1}, {3, 3}, {4, 4}, {5, 4}, {4, 5}, {5, 5}, {6, 5}, {7, 9}, {8, 8}, {8, 12}, {9, 7}, {13, 3}, {16, 1}, {1, 16}, {most, 1}, {1, most}, {most, 3}, {5, most}, {most - 1, 2}}

// wrongSizes are not; some of their products leave the range of int, and some come round to a small number or to 0.
var wrongSizes = [][2]int{{0, 0}, {0, 1}, {1, 0}, {-1, 1}, {1, -1}, {-1, -1}, {-4, -4}, {4097, 1}, {1, 4097}, {4097, 4097}, {0, 4097}, {8192, 0}, {1 << 31, 1 << 31}, {1 << 32, 1 << 32}, {1 << 62, 4}, {4, 1 << 62}, {math.MaxInt, math.MaxInt}, {math.MaxInt, 1}, {1, math.MaxInt}, {math.MinInt, math.MinInt}, {math.MinInt, 1}, {1, math.MinInt}, {math.MinInt, 2}, {math.MaxInt, math.MinInt}}

// wrongPlaces are places along a side of so many that are not on it.
func wrongPlaces(many int) []int {
	return []int{math.MinInt, -1 << 32, -many, -4, -2, -1, many, many + 1, many + 4, 2 * many, 1 << 32, 1 << 62, math.MaxInt - 1, math.MaxInt}
}

// pattern is an image in which neighbours differ in all channels.
func pattern(w, h int) api.Image {
	m := api.Image{W: w, H: h, Pix: make([]uint8, 4*w*h)}
	for i := range m.Pix {
		m.Pix[i] = uint8(i*37 + i/256*11 + i/4/w*101 + 5)
	}
	return m
}

// texel is what At should answer.
func texel(m api.Image, x, y int) api.Texel {
	p := m.Pix[(x+y*m.W)*4:]
	return api.Texel{int(p[0]), int(p[1]), int(p[2]), int(p[3])}
}

// tile is what Gather should answer.
func tile(m api.Image, x, y int) api.Tile {
	t := api.Tile{}
	for row := range 4 {
		for column := range 4 {
			a, b := 4*x+column, 4*y+row
			if a >= m.W {
				a = m.W - 1
			}
			if b >= m.H {
				b = m.H - 1
			}
			t[4*row+column] = texel(m, a, b)
		}
	}
	return t
}

// count is how many tiles there are along a side, counted one by one.
func count(side int) int {
	n := 0
	for at := 0; at < side; at += 4 {
		n++
	}
	return n
}

// clamped is a tile as Put would have it.
func clamped(t api.Tile) api.Tile {
	for i := range t {
		for c, n := range t[i] {
			switch {
			case n < 0:
				t[i][c] = 0
			case n > 255:
				t[i][c] = 255
			}
		}
	}
	return t
}

// fresh is a tile of many colours, some of them beyond the range of a channel.
func fresh() api.Tile {
	t := api.Tile{}
	for i := range t {
		t[i] = api.Texel{250 - i, 3*i + 1, 100 + 7*i, 40 * i}
	}
	t[0], t[5], t[10] = api.Texel{-1, 256, 0, 255}, api.Texel{math.MinInt, math.MaxInt, 300, -300}, api.Texel{1 << 32, -1 << 32, 511, 512}
	return t
}

// wrongImages are not valid.
func wrongImages() []api.Image {
	l := []api.Image{{}, {W: 1, H: 1}, {W: 1, H: 1, Pix: []uint8{}}, {Pix: make([]uint8, 4)}, {W: 5, H: 4, Pix: nil}}
	for _, s := range [][2]int{{1, 1}, {4, 4}, {5, 3}} {
		n := 4 * s[0] * s[1]
		for _, k := range []int{0, 1, 3, n - 4, n - 1, n + 1, n + 4, 2 * n} {
			l = append(l, api.Image{W: s[0], H: s[1], Pix: make([]uint8, k)})
		}
	}
	for _, s := range wrongSizes {
		for _, k := range []int{0, 4, 16, 64, 4 * 4097} {
			l = append(l, api.Image{W: s[0], H: s[1], Pix: make([]uint8, k)})
		}
	}
	return append(l, api.Image{W: 2, H: 4097, Pix: make([]uint8, 8*4097)}, api.Image{W: -2, H: -2, Pix: make([]uint8, 16)})
}

// isZero tells whether an answer is that beside an error.
func isZero(m api.Image) bool { return m.W == 0 && m.H == 0 && len(m.Pix) == 0 }

func TestRight(t *testing.T) { // P4.1
	for _, s := range sizes {
		if !image.Right(pattern(s[0], s[1])) {
			t.Errorf("%d by %d is valid", s[0], s[1])
		}
	}
	if !image.Right(api.Image{W: most, H: most, Pix: make([]uint8, 4*most*most)}) {
		t.Error("the greatest image is valid")
	}
	for i, m := range wrongImages() {
		if image.Right(m) {
			t.Errorf("%d: %d by %d, %d bytes: not valid", i, m.W, m.H, len(m.Pix))
		}
	}
}

func TestNew(t *testing.T) { // P4.1
	for _, s := range append(slices.Clone(sizes), [2]int{most, most}) {
		m, e := image.New(s[0], s[1])
		if e != api.OK || m.W != s[0] || m.H != s[1] || len(m.Pix) != 4*s[0]*s[1] {
			t.Fatalf("%d by %d: %d by %d, %d bytes, error %d", s[0], s[1], m.W, m.H, len(m.Pix), e)
		}
		for i, b := range m.Pix {
			if b != 0 {
				t.Fatalf("%d by %d: byte %d is %d", s[0], s[1], i, b)
			}
		}
	}
	for _, s := range wrongSizes {
		if m, e := image.New(s[0], s[1]); e != api.ErrArg || !isZero(m) {
			t.Errorf("%d by %d: %d by %d, %d bytes, error %d", s[0], s[1], m.W, m.H, len(m.Pix), e)
		}
	}
}

func TestSame(t *testing.T) { // P4.1
	for _, s := range sizes[:16] {
		a, b := pattern(s[0], s[1]), pattern(s[0], s[1])
		if !image.Same(a, b) {
			t.Errorf("%d by %d: the same", s[0], s[1])
		}
		for i := range b.Pix {
			b.Pix[i] ^= 1 << (i % 8)
			if image.Same(a, b) || image.Same(b, a) {
				t.Errorf("%d by %d: byte %d differs", s[0], s[1], i)
			}
			b.Pix[i] = a.Pix[i]
		}
	}
	p := make([]uint8, 48)
	for i, c := range []struct {
		a, b api.Image
		want bool
	}{
		{api.Image{W: 4, H: 3, Pix: p}, api.Image{W: 3, H: 4, Pix: p}, false},
		{api.Image{W: 12, H: 1, Pix: p}, api.Image{W: 1, H: 12, Pix: p}, false},
		{api.Image{W: 4, H: 3, Pix: p}, api.Image{W: 4, H: 4, Pix: p}, false},
		{api.Image{W: 4, H: 3, Pix: p}, api.Image{W: 5, H: 3, Pix: p}, false},
		{api.Image{W: 4, H: 3, Pix: p}, api.Image{W: 4, H: 3, Pix: p[:47]}, false},
		{api.Image{W: 4, H: 3, Pix: p}, api.Image{W: 4, H: 3}, false},
		{api.Image{W: 4, H: 3, Pix: p}, api.Image{W: 4, H: 3, Pix: p}, true},
		{api.Image{W: 4, H: 3}, api.Image{W: 4, H: 3, Pix: p[:0]}, true}, // R2
		{api.Image{}, api.Image{Pix: []uint8{}}, true},
		{api.Image{W: -1, H: math.MaxInt, Pix: p[:5]}, api.Image{W: -1, H: math.MaxInt, Pix: p[:5]}, true},
	} {
		if image.Same(c.a, c.b) != c.want || image.Same(c.b, c.a) != c.want {
			t.Errorf("case %d: not %v", i, c.want)
		}
	}
}

func TestAt(t *testing.T) { // P4.2
	for _, s := range sizes {
		m := pattern(s[0], s[1])
		for y := range m.H {
			for x := range m.W {
				if u, e := image.At(m, x, y); e != api.OK || u != texel(m, x, y) {
					t.Fatalf("%d by %d: texel %d, %d is %v, error %d", m.W, m.H, x, y, u, e)
				}
			}
		}
	}
	m := api.Image{W: most, H: most, Pix: make([]uint8, 4*most*most)}
	copy(m.Pix[len(m.Pix)-4:], []uint8{1, 2, 254, 255})
	if u, e := image.At(m, most-1, most-1); e != api.OK || u != (api.Texel{1, 2, 254, 255}) {
		t.Error("the last texel of the greatest image:", u, e)
	}
}

func TestPut(t *testing.T) { // P4.2, R3
	for _, s := range sizes[:16] {
		m := pattern(s[0], s[1])
		for y := range m.H {
			for x := range m.W {
				for _, u := range fresh() {
					want := pattern(s[0], s[1])
					for c, n := range clamped(api.Tile{u})[0] {
						want.Pix[4*(y*m.W+x)+c] = uint8(n)
					}
					n, e := image.Put(m, x, y, u)
					if e != api.OK || n.W != m.W || n.H != m.H || !slices.Equal(n.Pix, want.Pix) {
						t.Fatalf("%d by %d: texel %d, %d by %v: %v, error %d", m.W, m.H, x, y, u, n, e)
					}
				}
			}
		}
		if !slices.Equal(m.Pix, pattern(s[0], s[1]).Pix) {
			t.Errorf("%d by %d: Put has changed what it was given", m.W, m.H)
		}
	}
}

func TestPutClamps(t *testing.T) { // P4.2
	m := pattern(1, 1)
	for _, c := range [][2]int{{math.MinInt, 0}, {-1 << 32, 0}, {-256, 0}, {-255, 0}, {-1, 0}, {0, 0}, {1, 1}, {127, 127}, {128, 128}, {254, 254}, {255, 255}, {256, 255}, {257, 255}, {512, 255}, {2047, 255}, {1 << 32, 255}, {math.MaxInt, 255}} {
		for k := range 4 {
			u, want := api.Texel{9, 8, 7, 6}, api.Texel{9, 8, 7, 6}
			u[k], want[k] = c[0], c[1]
			n, e := image.Put(m, 0, 0, u)
			if e != api.OK || texel(n, 0, 0) != want {
				t.Errorf("%v: %v, error %d", u, n, e)
			}
		}
	}
}

func TestWrongTexels(t *testing.T) { // P4.2, P0, R1
	check := func(m api.Image, x, y int) {
		t.Helper()
		if u, e := image.At(m, x, y); e != api.ErrArg || u != (api.Texel{}) {
			t.Errorf("%d by %d, %d bytes: At %d, %d: %v, error %d", m.W, m.H, len(m.Pix), x, y, u, e)
		}
		if n, e := image.Put(m, x, y, api.Texel{1, 2, 3, 4}); e != api.ErrArg || !isZero(n) {
			t.Errorf("%d by %d, %d bytes: Put %d, %d: %v, error %d", m.W, m.H, len(m.Pix), x, y, n, e)
		}
	}
	for _, m := range wrongImages() {
		for _, c := range [][2]int{{0, 0}, {-1, 0}, {0, -1}, {1, 1}, {math.MaxInt, math.MaxInt}, {math.MinInt, math.MinInt}} {
			check(m, c[0], c[1])
		}
	}
	for _, s := range [][2]int{{1, 1}, {4, 4}, {5, 3}, {3, 5}, {8, 8}} {
		m := pattern(s[0], s[1])
		for _, x := range wrongPlaces(m.W) {
			check(m, x, 0)
			check(m, x, m.H-1)
			for _, y := range wrongPlaces(m.H) {
				check(m, x, y)
			}
		}
		for _, y := range wrongPlaces(m.H) {
			check(m, 0, y)
			check(m, m.W-1, y)
		}
		if !slices.Equal(m.Pix, pattern(s[0], s[1]).Pix) {
			t.Errorf("%d by %d: a call with an error has changed what it was given", m.W, m.H)
		}
	}
}

func TestTiles(t *testing.T) { // P4.3
	for w := range 70 {
		for h := range 70 {
			across, down := count(w), count(h)
			if w == 0 || h == 0 {
				across, down = 0, 0
			}
			if a, b := image.Tiles(w, h); a != across || b != down {
				t.Errorf("%d by %d: %d by %d tiles", w, h, a, b)
			}
		}
	}
	for _, c := range [][4]int{
		{5, 4, 2, 1}, {4096, 4096, 1024, 1024}, {4095, 4093, 1024, 1024}, {4092, 1, 1023, 1}, {4097, 4098, 1025, 1025},
		{math.MaxInt, 1, math.MaxInt/4 + 1, 1}, {1, math.MaxInt - 3, 1, math.MaxInt / 4}, {math.MaxInt, math.MaxInt, math.MaxInt/4 + 1, math.MaxInt/4 + 1},
		{-1, 5, 0, 0}, {5, -1, 0, 0}, {-4, -4, 0, 0}, {0, math.MaxInt, 0, 0}, {math.MaxInt, 0, 0, 0}, {math.MinInt, 8, 0, 0}, {8, math.MinInt, 0, 0}, {math.MinInt, math.MinInt, 0, 0},
	} {
		if a, b := image.Tiles(c[0], c[1]); a != c[2] || b != c[3] {
			t.Errorf("%d by %d: %d by %d tiles, not %d by %d", c[0], c[1], a, b, c[2], c[3])
		}
	}
}

func TestGather(t *testing.T) { // P4.3
	for _, s := range sizes {
		m := pattern(s[0], s[1])
		for y := range count(m.H) {
			for x := range count(m.W) {
				if u, e := image.Gather(m, x, y); e != api.OK || u != tile(m, x, y) {
					t.Fatalf("%d by %d: tile %d, %d is %v, error %d", m.W, m.H, x, y, u, e)
				}
			}
		}
		if !slices.Equal(m.Pix, pattern(s[0], s[1]).Pix) {
			t.Errorf("%d by %d: Gather has changed what it was given", m.W, m.H)
		}
	}
}

func TestGatherBeyondEdges(t *testing.T) { // P4.3
	m := pattern(5, 4) // the chapter's example
	u, e := image.Gather(m, 1, 0)
	if e != api.OK {
		t.Fatal(e)
	}
	for i := range u {
		if u[i] != texel(m, 4, i/4) {
			t.Errorf("5 by 4: texel %d of the second tile is %v", i, u[i])
		}
	}
	m = pattern(4, 6)
	if u, e = image.Gather(m, 0, 1); e != api.OK {
		t.Fatal(e)
	}
	for i, row := range []int{4, 5, 5, 5} {
		for c := range 4 {
			if u[4*i+c] != texel(m, c, row) {
				t.Errorf("4 by 6: texel %d of the second tile is %v", 4*i+c, u[4*i+c])
			}
		}
	}
	m = pattern(1, 1)
	if u, e = image.Gather(m, 0, 0); e != api.OK || u[0] != texel(m, 0, 0) || !image.Flat(u) {
		t.Error("1 by 1:", u, e)
	}
}

// laid is what Lay should answer.
func laid(m api.Image, x, y int, u api.Tile) api.Image {
	n := api.Image{W: m.W, H: m.H, Pix: slices.Clone(m.Pix)}
	for i, v := range clamped(u) {
		a, b := 4*x+i%4, 4*y+i/4
		if a >= m.W || b >= m.H {
			continue
		}
		for c, k := range v {
			n.Pix[4*(b*m.W+a)+c] = uint8(k)
		}
	}
	return n
}

func TestLay(t *testing.T) { // P4.3, R3
	u := fresh()
	for _, s := range sizes[:16] {
		m := pattern(s[0], s[1])
		for y := range count(m.H) {
			for x := range count(m.W) {
				want := laid(m, x, y, u)
				n, e := image.Lay(m, x, y, u)
				if e != api.OK || n.W != m.W || n.H != m.H || !slices.Equal(n.Pix, want.Pix) {
					t.Fatalf("%d by %d: tile %d, %d: %v, error %d", m.W, m.H, x, y, n, e)
				}
			}
		}
		if !slices.Equal(m.Pix, pattern(s[0], s[1]).Pix) {
			t.Errorf("%d by %d: Lay has changed what it was given", m.W, m.H)
		}
	}
	m := pattern(most, 5)
	n, e := image.Lay(m, 1023, 1, u)
	if e != api.OK || !slices.Equal(n.Pix, laid(m, 1023, 1, u).Pix) {
		t.Error("the last tile of a wide image:", e)
	}
}

func TestWrongTiles(t *testing.T) { // P4.3, P0, R1
	check := func(m api.Image, x, y int) {
		t.Helper()
		if u, e := image.Gather(m, x, y); e != api.ErrArg || u != (api.Tile{}) {
			t.Errorf("%d by %d, %d bytes: Gather %d, %d: %v, error %d", m.W, m.H, len(m.Pix), x, y, u, e)
		}
		if n, e := image.Lay(m, x, y, fresh()); e != api.ErrArg || !isZero(n) {
			t.Errorf("%d by %d, %d bytes: Lay %d, %d: %v, error %d", m.W, m.H, len(m.Pix), x, y, n, e)
		}
	}
	for _, m := range wrongImages() {
		for _, c := range [][2]int{{0, 0}, {-1, 0}, {0, -1}, {1, 1}, {math.MaxInt, math.MaxInt}, {math.MinInt, math.MinInt}} {
			check(m, c[0], c[1])
		}
	}
	for _, s := range [][2]int{{1, 1}, {4, 4}, {5, 3}, {3, 5}, {8, 12}, {9, 9}} {
		m := pattern(s[0], s[1])
		across, down := count(m.W), count(m.H)
		for _, x := range wrongPlaces(across) {
			check(m, x, 0)
			check(m, x, down-1)
			for _, y := range wrongPlaces(down) {
				check(m, x, y)
			}
		}
		for _, y := range wrongPlaces(down) {
			check(m, 0, y)
			check(m, across-1, y)
		}
		if !slices.Equal(m.Pix, pattern(s[0], s[1]).Pix) {
			t.Errorf("%d by %d: a call with an error has changed what it was given", m.W, m.H)
		}
	}
}

func TestWhole(t *testing.T) { // P4.3, R3
	for _, s := range sizes[:16] {
		w, h := s[0], s[1]
		across, down := count(w), count(h)
		l := make([]api.Tile, across*down)
		want := api.Image{W: w, H: h, Pix: make([]uint8, 4*w*h)}
		for i := range l {
			l[i] = fresh()
			l[i][1], l[i][4] = api.Texel{i, i + 1, -i, 256 + i}, api.Texel{7, i, 2 * i, 9}
			want = laid(want, i%across, i/across, l[i])
		}
		kept := slices.Clone(l)
		m, e := image.Whole(w, h, l)
		if e != api.OK || m.W != w || m.H != h || !slices.Equal(m.Pix, want.Pix) {
			t.Errorf("%d by %d: %v, error %d", w, h, m, e)
		}
		if !slices.Equal(l, kept) {
			t.Errorf("%d by %d: Whole has changed what it was given", w, h)
		}
	}
}

func TestWrongWhole(t *testing.T) { // P4.3, P0, R1
	check := func(w, h int, l []api.Tile) {
		t.Helper()
		if m, e := image.Whole(w, h, l); e != api.ErrArg || !isZero(m) {
			t.Errorf("%d by %d, %d tiles: %v, error %d", w, h, len(l), m, e)
		}
	}
	for _, s := range sizes {
		n := count(s[0]) * count(s[1])
		for _, k := range []int{0, n - 1, n + 1, 2 * n} {
			check(s[0], s[1], make([]api.Tile, k))
		}
		check(s[0], s[1], nil)
	}
	check(most, most, nil)
	check(8, 8, make([]api.Tile, 2))
	for _, s := range wrongSizes {
		for _, k := range []int{0, 1, 4, 1025} {
			check(s[0], s[1], make([]api.Tile, k))
		}
	}
}

func TestFlat(t *testing.T) { // P4.3
	for _, u := range []api.Texel{{}, {1, 2, 3, 4}, {255, 255, 255, 255}, {-1, 2047, math.MaxInt, math.MinInt}} {
		v := api.Tile{}
		for i := range v {
			v[i] = u
		}
		if !image.Flat(v) {
			t.Error("flat:", v)
		}
		for i := range v {
			for c := range u {
				v[i][c] ^= 1
				if image.Flat(v) {
					t.Errorf("channel %d of texel %d differs: %v", c, i, v)
				}
				v[i][c] = u[c]
			}
		}
	}
	v := api.Tile{}
	for i := range v {
		v[i] = api.Texel{i / 8, 1, 2, 3}
	}
	if image.Flat(v) {
		t.Error("two halves:", v)
	}
}

func TestWholeOfAllTiles(t *testing.T) { // P4.4
	for _, s := range append(slices.Clone(sizes), [2]int{most, 64}, [2]int{61, most}) {
		m := pattern(s[0], s[1])
		across, down := image.Tiles(m.W, m.H)
		l := []api.Tile{}
		for y := range down {
			for x := range across {
				u, e := image.Gather(m, x, y)
				if e != api.OK {
					t.Fatal(m.W, m.H, x, y, e)
				}
				l = append(l, u)
			}
		}
		n, e := image.Whole(m.W, m.H, l)
		if e != api.OK || !image.Same(m, n) || !slices.Equal(m.Pix, n.Pix) {
			t.Errorf("%d by %d: not what its tiles were gathered from, error %d", m.W, m.H, e)
		}
	}
}

func TestGatherAfterLay(t *testing.T) { // P4.4
	u := fresh()
	for _, s := range sizes[:16] {
		m := pattern(s[0], s[1])
		for y := range count(m.H) {
			for x := range count(m.W) {
				n, e := image.Lay(m, x, y, u)
				if e != api.OK {
					t.Fatal(m.W, m.H, x, y, e)
				}
				v, e := image.Gather(n, x, y)
				if e != api.OK {
					t.Fatal(m.W, m.H, x, y, e)
				}
				for i, w := range clamped(u) {
					if 4*x+i%4 < m.W && 4*y+i/4 < m.H && v[i] != w {
						t.Errorf("%d by %d, tile %d, %d: texel %d is %v, not %v", m.W, m.H, x, y, i, v[i], w)
					}
				}
			}
		}
	}
}

func TestNothingIsShared(t *testing.T) { // R3
	m := pattern(5, 5)
	a, _ := image.Put(m, 0, 0, texel(m, 0, 0))
	b, _ := image.Lay(m, 0, 0, tile(m, 0, 0))
	c, _ := image.New(5, 5)
	d, _ := image.New(5, 5)
	for i := range m.Pix {
		a.Pix[i], b.Pix[i], c.Pix[i] = 1, 2, 3
	}
	if !slices.Equal(m.Pix, pattern(5, 5).Pix) {
		t.Error("a result shares memory with an argument")
	}
	if slices.Max(d.Pix) != 0 {
		t.Error("two results share memory")
	}
	e, _ := image.New(5, 5)
	if slices.Max(e.Pix) != 0 {
		t.Error("a result is kept")
	}
	p := append(pattern(4, 4).Pix, 77, 77, 77, 77)
	short := api.Image{W: 4, H: 4, Pix: p[:64]}
	n, _ := image.Put(short, 3, 3, api.Texel{})
	if n.Pix = append(n.Pix, 1); p[64] != 77 || !slices.Equal(p[:64], pattern(4, 4).Pix) {
		t.Error("bytes behind an argument have changed")
	}
}

func TestAtOnce(t *testing.T) { // R4, R5
	m, u := pattern(9, 7), fresh()
	var all sync.WaitGroup
	for range 8 {
		all.Go(func() {
			for range 50 {
				n, e := image.Lay(m, 2, 1, u)
				if e != api.OK || !image.Same(n, laid(m, 2, 1, u)) {
					t.Error("Lay:", n, e)
				}
				if v, e := image.Gather(m, 2, 1); e != api.OK || v != tile(m, 2, 1) {
					t.Error("Gather:", v, e)
				}
				if w, e := image.Whole(4, 4, []api.Tile{u}); e != api.OK || !image.Same(w, laid(pattern(4, 4), 0, 0, u)) {
					t.Error("Whole:", w, e)
				}
			}
		})
	}
	all.Wait()
}
