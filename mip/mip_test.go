package mip_test

import (
	"math"
	"slices"
	"sync"
	"testing"

	"swatch/api"
	"swatch/image"
	"swatch/mip"
)

// most is the greatest width and height.
const most = 4096

// sizes are valid: of one texel, odd and even, a side of 1 beside a longer one, and the widest and highest ones.
var sizes = [][2]int{{1, 1}, {1, 2}, {2, 1}, {2, 2}, {1, 3}, {3, 1}, {3, 3}, {2, 3}, {3, 2}, {4, 4}, {5, 2}, {2, 5}, {5, 4}, {4, 5}, {5, 5}, {6, 5}, {7, 9}, {8, 8}, {1, 9}, {9, 1}, {13, 3}, {16, 1}, {1, 16}, {31, 33}, {most, 1}, {1, most}, {most, 3}, {5, most}, {most - 1, 2}}

// pattern is an image in which neighbours differ in all channels.
func pattern(w, h int) api.Image {
	m := api.Image{W: w, H: h, Pix: make([]uint8, 4*w*h)}
	for i := range m.Pix {
		m.Pix[i] = uint8(i*37 + i/256*11 + i/4/w*101 + 5)
	}
	return m
}

// plain is an image of a single colour.
func plain(w, h int, t [4]uint8) api.Image {
	return api.Image{W: w, H: h, Pix: slices.Repeat(t[:], w*h)}
}

// exchanged is an image whose columns are the rows of another.
func exchanged(m api.Image) api.Image {
	n := api.Image{W: m.H, H: m.W}
	for x := range m.W {
		for y := range m.H {
			at := 4 * (y*m.W + x)
			n.Pix = append(n.Pix, m.Pix[at:at+4]...)
		}
	}
	return n
}

// copied is an image with bytes of its own.
func copied(m api.Image) api.Image {
	return api.Image{W: m.W, H: m.H, Pix: slices.Clone(m.Pix)}
}

// halved is what half a side should be.
func halved(n int) int {
	if n == 1 {
		return 1
	}
	return (n - n%2) / 2
}

// four are a channel of the texels of which one of the half is made.
func four(m api.Image, x, y, c int) []int {
	l := []int{}
	for _, row := range []int{2 * y, 2*y + 1} {
		for _, column := range []int{2 * x, 2*x + 1} {
			if row >= m.H {
				row = m.H - 1
			}
			if column >= m.W {
				column = m.W - 1
			}
			l = append(l, int(m.Pix[4*row*m.W+4*column+c]))
		}
	}
	return l
}

// half is what Half should answer.
func half(m api.Image) api.Image {
	n := api.Image{W: halved(m.W), H: halved(m.H)}
	for y := range n.H {
		for x := range n.W {
			for c := range 4 {
				sum := 2
				for _, v := range four(m, x, y, c) {
					sum += v
				}
				n.Pix = append(n.Pix, uint8((sum-sum%4)/4))
			}
		}
	}
	return n
}

// wrongImages are not valid: by their sides, and by the bytes that they have.
func wrongImages() []api.Image {
	l := []api.Image{{}, {W: 1, H: 1}, {W: 2, H: 3}, {W: 1, H: 1, Pix: []uint8{}}, {Pix: make([]uint8, 4)}}
	for _, n := range []int{-1, 1, -4, 4, -5, 5} {
		l = append(l, api.Image{W: 4, H: 2, Pix: make([]uint8, 32+n)})
	}
	for _, n := range []int{math.MinInt, math.MinInt + 1, -most, -4, -1, 0, most + 1, 1 << 31, 1 << 32, 1 << 62, math.MaxInt} {
		for _, m := range []int{1, 4, n} {
			for _, many := range []int{0, 4, 16, 64} {
				pix := make([]uint8, many)
				l = append(l, api.Image{W: n, H: m, Pix: pix}, api.Image{W: m, H: n, Pix: pix})
			}
		}
	}
	long := make([]uint8, 4*(most+1))
	return append(l, api.Image{W: most + 1, H: 1, Pix: long}, api.Image{W: 1, H: most + 1, Pix: long})
}

// isNone tells whether an image is the zero value.
func isNone(m api.Image) bool {
	return m.W == 0 && m.H == 0 && len(m.Pix) == 0
}

// P5.1: the sizes that the chapter and the document name.
func TestLevelsOfSomeSizes(t *testing.T) {
	for _, c := range []struct{ w, h, want int }{
		{5, 2, 3}, {1, 1, 1}, {2, 1, 2}, {1, 2, 2}, {2, 2, 2}, {3, 3, 2}, {3, 1, 2}, {4, 1, 3}, {7, 8, 4}, {8, 7, 4}, {9, 9, 4},
		{most, most, 13}, {most, 1, 13}, {1, most, 13}, {most - 1, most - 1, 12}, {most - 1, 2, 12},
		{most + 1, 1, 13}, {8192, 8192, 14}, {math.MaxInt, 1, 63}, {1, math.MaxInt, 63}, {math.MaxInt, math.MaxInt, 63}, {1 << 62, 5, 63}, {1<<62 - 1, 5, 62},
	} {
		if n := mip.Levels(c.w, c.h); n != c.want {
			t.Errorf("Levels(%d, %d) = %d, not %d", c.w, c.h, n, c.want)
		}
	}
}

// P5.1: all sizes up to 70 by 70, counted one by one, of which the longer side decides.
func TestLevelsCounted(t *testing.T) {
	for w := 1; w <= 70; w++ {
		for h := 1; h <= 70; h++ {
			want := 1
			for a, b := w, h; a != 1 || b != 1; a, b = halved(a), halved(b) {
				want++
			}
			if n := mip.Levels(w, h); n != want {
				t.Fatalf("Levels(%d, %d) = %d, not %d", w, h, n, want)
			}
		}
	}
}

// P5.1, P0: sides below 1 have no levels, whatever is beside them.
func TestLevelsOfNoSize(t *testing.T) {
	for _, n := range []int{0, -1, -2, -most, math.MinInt, math.MinInt + 1} {
		for _, m := range []int{1, 2, 5, most, math.MaxInt, 0, -1, math.MinInt} {
			if a, b := mip.Levels(n, m), mip.Levels(m, n); a != 0 || b != 0 {
				t.Errorf("Levels of %d and %d: %d, %d", n, m, a, b)
			}
		}
	}
}

// P5.1: a side halved again and again, and past the level at which it is 1.
func TestSideHalved(t *testing.T) {
	sides := []int{most - 1, most, most + 1, 1<<31 - 1, 1 << 31, 1<<62 - 1, 1 << 62, math.MaxInt - 1, math.MaxInt}
	for n := 1; n <= 300; n++ {
		sides = append(sides, n)
	}
	for _, n := range sides {
		want := n
		for level := range 80 {
			if got := mip.Side(n, level); got != want {
				t.Fatalf("Side(%d, %d) = %d, not %d", n, level, got, want)
			}
			want = halved(want)
		}
		for _, level := range []int{1000, 1 << 31, 1 << 62, math.MaxInt - 1, math.MaxInt} {
			if got := mip.Side(n, level); got != 1 {
				t.Fatalf("Side(%d, %d) = %d, not 1", n, level, got)
			}
		}
	}
}

// P5.1, P0: a side below 1 and a negative level.
func TestSideOfNothing(t *testing.T) {
	few := []int{math.MinInt, math.MinInt + 1, -most, -2, -1}
	for _, n := range append(few, 0) {
		for _, level := range []int{0, 1, 2, 12, math.MaxInt, -1, math.MinInt} {
			if got := mip.Side(n, level); got != 0 {
				t.Errorf("Side(%d, %d) = %d, not 0", n, level, got)
			}
		}
	}
	for _, level := range few {
		for _, n := range []int{1, 2, 9, most, math.MaxInt} {
			if got := mip.Side(n, level); got != 0 {
				t.Errorf("Side(%d, %d) = %d, not 0", n, level, got)
			}
		}
	}
}

// P5.2: the half of many sizes, by the words of the chapter.
func TestHalfOfSizes(t *testing.T) {
	for _, s := range sizes {
		m := pattern(s[0], s[1])
		got, e := mip.Half(m)
		if want := half(m); e != api.OK || !image.Same(got, want) {
			t.Errorf("the half of %v: %d by %d, error %d", s, got.W, got.H, e)
		}
		if !image.Right(got) || got.W != mip.Side(s[0], 1) || got.H != mip.Side(s[1], 1) {
			t.Errorf("the half of %v has %d by %d", s, got.W, got.H)
		}
	}
}

// P5.2: a half by hand: the third column and row of 3 by 3 have no part in it.
func TestHalfByHand(t *testing.T) {
	m := api.Image{W: 3, H: 3, Pix: []uint8{
		1, 10, 0, 255, 2, 20, 0, 255, 99, 99, 99, 99,
		3, 30, 0, 255, 4, 40, 1, 254, 99, 99, 99, 99,
		99, 99, 99, 99, 99, 99, 99, 99, 99, 99, 99, 99,
	}}
	got, e := mip.Half(m)
	if e != api.OK || !image.Same(got, api.Image{W: 1, H: 1, Pix: []uint8{3, 25, 0, 255}}) {
		t.Error(got, e)
	}
}

// P5.2: sums whose remainder by 4 is 0 to 3, from those of four texels of 0 on to those of four texels of 255.
func TestHalfRounds(t *testing.T) {
	for sum := range 4*255 + 1 {
		m, left := plain(2, 2, [4]uint8{}), sum
		for i := range 4 {
			n := min(left, 255)
			left -= n
			m.Pix[4*i], m.Pix[4*(3-i)+1], m.Pix[4*(i^1)+2], m.Pix[4*(i^2)+3] = uint8(n), uint8(n), uint8(n), uint8(n)
		}
		want := uint8(sum / 4)
		if sum%4 >= 2 {
			want++
		}
		got, e := mip.Half(m)
		if e != api.OK || !slices.Equal(got.Pix, []uint8{want, want, want, want}) {
			t.Fatalf("a sum of %d: %v, not %d, error %d", sum, got.Pix, want, e)
		}
	}
}

// P5.2: a side of 1 has its one column or row twice.
func TestHalfOfASideOfOne(t *testing.T) {
	row := []uint8{1, 0, 255, 7, 2, 255, 255, 8, 6, 0, 3, 9, 8, 1, 4, 9, 99, 99, 99, 99}
	want := []uint8{2, 128, 255, 8, 7, 1, 4, 9}
	got, e := mip.Half(api.Image{W: 5, H: 1, Pix: row})
	if e != api.OK || !image.Same(got, api.Image{W: 2, H: 1, Pix: want}) {
		t.Error(got, e)
	}
	got, e = mip.Half(api.Image{W: 1, H: 5, Pix: row})
	if e != api.OK || !image.Same(got, api.Image{W: 1, H: 2, Pix: want}) {
		t.Error(got, e)
	}
	one := api.Image{W: 1, H: 1, Pix: []uint8{0, 255, 1, 254}}
	got, e = mip.Half(one)
	if e != api.OK || !image.Same(got, one) {
		t.Error(got, e)
	}
}

// P5.2: the last column and the last row of an odd side longer than 1 have no part in the half; those of an even side have.
func TestHalfAtTheLastColumnAndRow(t *testing.T) {
	for _, s := range sizes {
		m := plain(s[0], s[1], [4]uint8{})
		for x := range s[0] {
			for y := range s[1] {
				if x == s[0]-1 && x > 0 || y == s[1]-1 && y > 0 {
					copy(m.Pix[4*(y*s[0]+x):], []uint8{200, 200, 200, 200})
				}
			}
		}
		got, e := mip.Half(m)
		if e != api.OK {
			t.Fatal(s, e)
		}
		isOdd := s[0]%2 == 1 && s[1]%2 == 1
		if isNull := slices.Max(got.Pix) == 0; isNull != isOdd {
			t.Errorf("the half of %v: the last ones have a part in it: %v", s, !isNull)
		}
	}
}

// P5.2, P0, R1: images that are not valid.
func TestHalfOfWrongImages(t *testing.T) {
	for _, m := range wrongImages() {
		got, e := mip.Half(m)
		if e != api.ErrArg || !isNone(got) {
			t.Errorf("%d by %d with %d bytes: %v, %d", m.W, m.H, len(m.Pix), got, e)
		}
	}
}

// P5.2: chains of all lengths that there are, from one on.
func TestChainOfSizes(t *testing.T) {
	for _, s := range sizes {
		m := pattern(s[0], s[1])
		for many := 1; many <= mip.Levels(s[0], s[1]); many++ {
			l, e := mip.Chain(m, many)
			if e != api.OK || len(l) != many {
				t.Fatalf("%d of %v: %d images, error %d", many, s, len(l), e)
			}
			want := m
			for i, n := range l {
				if !image.Same(n, want) {
					t.Fatalf("%d of %v: image %d is another", many, s, i)
				}
				if n.W != mip.Side(s[0], i) || n.H != mip.Side(s[1], i) {
					t.Fatalf("%d of %v: image %d has %d by %d", many, s, i, n.W, n.H)
				}
				want = half(want)
			}
		}
	}
}

// P5.2: the last image of a whole chain is one texel, and none before it.
func TestChainEndsWithOneTexel(t *testing.T) {
	for _, s := range sizes {
		l, e := mip.Chain(pattern(s[0], s[1]), mip.Levels(s[0], s[1]))
		if e != api.OK {
			t.Fatal(s, e)
		}
		for i, m := range l {
			if isLast := i == len(l)-1; isLast != (m.W == 1 && m.H == 1) {
				t.Errorf("%v: image %d of %d has %d by %d", s, i, len(l), m.W, m.H)
			}
		}
	}
}

// P5.2: the greatest image there is.
func TestChainOfTheGreatest(t *testing.T) {
	m := plain(most, most, [4]uint8{0, 255, 7, 128})
	l, e := mip.Chain(m, 13)
	if e != api.OK || len(l) != 13 {
		t.Fatal(len(l), e)
	}
	for i, n := range l {
		if n.W != most>>i || n.H != most>>i || !slices.Equal(n.Pix[len(n.Pix)-4:], m.Pix[:4]) {
			t.Errorf("image %d has %d by %d", i, n.W, n.H)
		}
	}
	if l, e := mip.Chain(m, 14); e != api.ErrArg || len(l) != 0 {
		t.Error(len(l), e)
	}
}

// P5.2, P0, R1: chains of wrong images, and of too few and too many.
func TestWrongChains(t *testing.T) {
	for _, m := range wrongImages() {
		for _, many := range []int{math.MinInt, -1, 0, 1, 2, 3, math.MaxInt} {
			l, e := mip.Chain(m, many)
			if e != api.ErrArg || len(l) != 0 {
				t.Errorf("%d of %d by %d with %d bytes: %v, %d", many, m.W, m.H, len(m.Pix), l, e)
			}
		}
	}
	for _, s := range sizes {
		m, levels := pattern(s[0], s[1]), mip.Levels(s[0], s[1])
		for _, many := range []int{math.MinInt, -levels, -1, 0, levels + 1, levels + 2, 99, 1 << 32, 1<<32 + 1, math.MaxInt} {
			l, e := mip.Chain(m, many)
			if e != api.ErrArg || len(l) != 0 {
				t.Errorf("%d of %v: %d images, error %d", many, s, len(l), e)
			}
		}
	}
}

// P5.3: every channel of a half lies among the four of which it is made.
func TestHalfLiesBetween(t *testing.T) {
	for _, s := range sizes {
		m := pattern(s[0], s[1])
		h, e := mip.Half(m)
		if e != api.OK {
			t.Fatal(s, e)
		}
		for i, n := range h.Pix {
			l := four(m, i/4%h.W, i/4/h.W, i%4)
			if int(n) < slices.Min(l) || int(n) > slices.Max(l) {
				t.Fatalf("the half of %v has %d, from %v", s, n, l)
			}
		}
	}
}

// P5.3: every value as a single colour, in every channel.
func TestHalfOfASingleColour(t *testing.T) {
	for n := range 256 {
		colour := [4]uint8{uint8(n), uint8(255 - n), uint8(n * 7), uint8(n ^ 85)}
		for _, s := range [][2]int{{1, 1}, {1, 2}, {2, 1}, {2, 2}, {3, 5}, {6, 1}, {1, 7}, {8, 4}} {
			l, e := mip.Chain(plain(s[0], s[1], colour), mip.Levels(s[0], s[1]))
			if e != api.OK {
				t.Fatal(s, e)
			}
			for _, m := range l {
				if !image.Same(m, plain(m.W, m.H, colour)) {
					t.Fatalf("%v of %v: %v", colour, s, m)
				}
			}
		}
	}
}

// P5.3: columns and rows exchanged, ahead of the half or behind it.
func TestHalfOfTheExchanged(t *testing.T) {
	for _, s := range sizes {
		m := pattern(s[0], s[1])
		a, e := mip.Half(exchanged(m))
		b, f := mip.Half(m)
		if e != api.OK || f != api.OK || !image.Same(a, exchanged(b)) {
			t.Errorf("the half of %v: %d, %d", s, e, f)
		}
	}
}

// P5.2, R3: neither the image nor bytes behind its last one are changed.
func TestNothingIsChanged(t *testing.T) {
	for _, s := range sizes {
		m := pattern(s[0], s[1])
		room := append(slices.Clone(m.Pix), 1, 2, 3, 4, 5, 6, 7, 8)
		was := slices.Clone(room)
		m.Pix = room[:len(m.Pix)]
		keep := copied(m)
		if _, e := mip.Half(m); e != api.OK {
			t.Fatal(s, e)
		}
		if _, e := mip.Chain(m, mip.Levels(s[0], s[1])); e != api.OK {
			t.Fatal(s, e)
		}
		if !image.Same(m, keep) || !slices.Equal(room, was) {
			t.Errorf("%v was changed", s)
		}
	}
}

// spoil overwrites all bytes that an image has, and all that it has room for.
func spoil(m api.Image) {
	all := m.Pix[:cap(m.Pix)]
	for i := range all {
		all[i] ^= 255
	}
}

// R3: results share no bytes with the image, and images of a chain none with each other.
func TestNothingIsShared(t *testing.T) {
	for _, s := range sizes {
		m := pattern(s[0], s[1])
		keep := copied(m)
		h, _ := mip.Half(m)
		l, e := mip.Chain(m, mip.Levels(s[0], s[1]))
		if e != api.OK {
			t.Fatal(s, e)
		}
		want := []api.Image{}
		for _, n := range l {
			want = append(want, copied(n))
		}
		spoil(h)
		for i, n := range l {
			if !image.Same(n, want[i]) {
				t.Fatalf("%v: image %d was changed by another", s, i)
			}
			spoil(n)
		}
		if !image.Same(m, keep) {
			t.Fatalf("%v is shared", s)
		}
		h, _ = mip.Half(m)
		keep = copied(h)
		spoil(m)
		if !image.Same(h, keep) {
			t.Fatalf("the half of %v is shared", s)
		}
	}
}

// R4, R5: many at the same time answer as one alone does.
func TestManyAtTheSameTime(t *testing.T) {
	m := pattern(37, 22)
	want, _ := mip.Chain(m, 6)
	group := sync.WaitGroup{}
	for range 16 {
		group.Go(func() {
			for range 20 {
				l, e := mip.Chain(m, 6)
				h, f := mip.Half(m)
				if e != api.OK || f != api.OK || !slices.EqualFunc(l, want, image.Same) || !image.Same(h, want[1]) || mip.Levels(37, 22) != 6 || mip.Side(37, 3) != 4 {
					t.Error("another answer", e, f)
				}
			}
		})
	}
	group.Wait()
}
