package shape

import (
	"math"
	"slices"
	"testing"

	"fuller/api"
)

// sides are those that may be, where products reach the limit, and those beside them that may not.
func sides() []int {
	return []int{math.MinInt, -1, 0, 1, 2, 3, 4, 5, 8, 13, 15, 16, 17, 64, 1 << 31, 1 << 62, math.MaxInt}
}

// lists are all lists of up to so many of the numbers.
func lists(dims int, numbers []int) [][]int {
	all := [][]int{nil}
	for from := 0; dims > 0; dims-- {
		to := len(all)
		for _, l := range all[from:to] {
			for _, n := range numbers {
				all = append(all, append(slices.Clone(l), n))
			}
		}
		from = to
	}
	return all
}

// shapes are those of some sides that may be.
func shapes() [][]int {
	return slices.DeleteFunc(lists(api.MaxDims, sides()), func(s []int) bool { return !Check(s) })
}

// wrong are shapes that may not be.
func wrong() [][]int {
	return [][]int{
		{0}, {-1}, {17}, {2, 0}, {0, 2}, {2, 17, 1}, {-2, -2}, {-1, -1, 4},
		{5, 13}, {16, 5}, {4, 4, 5}, {16, 16, 16},
		{1, 1, 1, 1}, {2, 2, 2, 2}, {1, 1, 1, 0},
		{1 << 62, 4}, {1 << 32, 1 << 32}, {1 << 31, 1 << 31, 4}, {math.MinInt}, {math.MaxInt},
		{math.MinInt, math.MinInt}, {math.MaxInt, math.MaxInt, 1},
	}
}

// P2.1
func TestSize(t *testing.T) {
	for _, c := range []struct {
		s    []int
		want int
	}{
		{nil, 1}, {[]int{}, 1},
		{[]int{1}, 1}, {[]int{7}, 7}, {[]int{16}, 16},
		{[]int{2, 3}, 6}, {[]int{16, 4}, 64}, {[]int{4, 16}, 64}, {[]int{8, 8}, 64}, {[]int{7, 9}, 63}, {[]int{1, 1}, 1},
		{[]int{2, 3, 4}, 24}, {[]int{4, 4, 4}, 64}, {[]int{1, 4, 16}, 64}, {[]int{1, 1, 1}, 1},
	} {
		if n := Size(c.s); n != c.want || !Check(c.s) {
			t.Errorf("Size(%v) is %d, Check %t; want %d", c.s, n, Check(c.s), c.want)
		}
	}
	for _, s := range append(wrong(), make([]int, 1000)) {
		if n := Size(s); n != 0 || Check(s) {
			t.Errorf("Size(%v) is %d, Check %t; want 0, false", s, n, Check(s))
		}
	}
}

// P2.1: each word of it, on all lists of some sides, one longer than a shape is.
func TestCheckAll(t *testing.T) {
	for _, s := range lists(api.MaxDims+1, sides()) {
		may, product := len(s) <= api.MaxDims, 1
		for _, side := range s {
			may = may && side >= 1 && side <= api.MaxSide
			if may {
				product *= side
			}
		}
		may = may && product <= api.MaxSize
		if !may {
			product = 0
		}
		if Check(s) != may || Size(s) != product {
			t.Errorf("Check(%v) is %t, Size %d; want %t, %d", s, Check(s), Size(s), may, product)
		}
	}
}

// P2.2
func TestPlace(t *testing.T) {
	for _, c := range []struct {
		s, index []int
		want     int
	}{
		{nil, nil, 0}, {[]int{}, nil, 0}, {nil, []int{}, 0},
		{[]int{5}, []int{0}, 0}, {[]int{5}, []int{4}, 4},
		{[]int{2, 3}, []int{0, 2}, 2}, {[]int{2, 3}, []int{1, 0}, 3}, {[]int{2, 3}, []int{1, 2}, 5},
		{[]int{3, 1}, []int{2, 0}, 2}, {[]int{1, 3}, []int{0, 2}, 2},
		{[]int{2, 3, 4}, []int{1, 0, 3}, 15}, {[]int{4, 4, 4}, []int{3, 3, 3}, 63},
	} {
		if n, err := Place(c.s, c.index); n != c.want || err != api.OK {
			t.Errorf("Place(%v, %v) is %d, %d; want %d, OK", c.s, c.index, n, err, c.want)
		}
		if l, err := Index(c.s, c.want); !slices.Equal(l, c.index) || err != api.OK {
			t.Errorf("Index(%v, %d) is %v, %d; want %v, OK", c.s, c.want, l, err, c.index)
		}
	}
}

// P2.2: an index that is none of the shape, and a shape that may not be.
func TestPlaceWrong(t *testing.T) {
	check := func(s, index []int) {
		t.Helper()
		if n, err := Place(s, index); n != 0 || err != api.ErrShape {
			t.Errorf("Place(%v, %v) is %d, %d; want 0, ErrShape", s, index, n, err)
		}
	}
	check(nil, []int{0})
	check([]int{1}, nil)
	for _, index := range [][]int{
		nil, {1}, {1, 1}, {1, 1, 1, 1}, {1, 1, 1, 0},
		{2, 0, 0}, {0, 3, 0}, {0, 0, 4}, {-1, 0, 0}, {0, -1, 0}, {0, 0, -1},
		{1, 2, 4}, {0, 3, -12}, {1, -3, 0}, {math.MaxInt, 0, 0}, {0, 0, math.MinInt}, {1 << 62, 0, 0},
	} {
		check([]int{2, 3, 4}, index)
	}
	for _, s := range wrong() {
		check(s, make([]int, len(s)))
		check(s, nil)
	}
}

// P2.2: a place that there is none of, and a shape that may not be.
func TestIndexWrong(t *testing.T) {
	check := func(s []int, place int) {
		t.Helper()
		if l, err := Index(s, place); len(l) != 0 || err != api.ErrShape {
			t.Errorf("Index(%v, %d) is %v, %d; want none, ErrShape", s, place, l, err)
		}
	}
	for _, s := range shapes() {
		for _, place := range []int{-1, -Size(s), Size(s), Size(s) + 1, 1 << 62, math.MinInt, math.MaxInt} {
			check(s, place)
		}
	}
	for _, s := range wrong() {
		for _, place := range []int{-1, 0, 1} {
			check(s, place)
		}
	}
}

// P2.2: the indices of each shape, as lists of numbers stand, have the places 0, 1, 2 ..
func TestPlacesRise(t *testing.T) {
	for _, s := range shapes() {
		all := indices(s)
		if len(all) != Size(s) || !slices.IsSortedFunc(all, slices.Compare) {
			t.Fatalf("indices of %v: %v", s, all)
		}
		for place, index := range all {
			if n, err := Place(s, index); n != place || err != api.OK {
				t.Errorf("Place(%v, %v) is %d, %d; want %d, OK", s, index, n, err, place)
			}
			if l, err := Index(s, place); !slices.Equal(l, index) || err != api.OK {
				t.Errorf("Index(%v, %d) is %v, %d; want %v, OK", s, place, l, err, index)
			}
		}
	}
}

// indices are those of s, the least ahead.
func indices(s []int) [][]int {
	all := [][]int{nil}
	for _, side := range s {
		var longer [][]int
		for _, l := range all {
			for n := range side {
				longer = append(longer, append(slices.Clone(l), n))
			}
		}
		all = longer
	}
	return all
}

// P2.3
func TestJoin(t *testing.T) {
	for _, c := range []struct{ a, b, want []int }{
		{nil, nil, nil},
		{nil, []int{4}, []int{4}},
		{nil, []int{2, 3, 4}, []int{2, 3, 4}},
		{[]int{1}, []int{1}, []int{1}},
		{[]int{1}, []int{16}, []int{16}},
		{[]int{2, 3}, []int{3}, []int{2, 3}},
		{[]int{2, 3}, []int{1}, []int{2, 3}},
		{[]int{2, 1}, []int{1, 4}, []int{2, 4}},
		{[]int{2, 1}, []int{4}, []int{2, 4}},
		{[]int{1, 1, 1}, []int{5}, []int{1, 1, 5}},
		{[]int{2, 1, 4}, []int{3, 1}, []int{2, 3, 4}},
		{[]int{2, 3, 4}, []int{2, 3, 4}, []int{2, 3, 4}},
		{[]int{16, 1}, []int{1, 4}, []int{16, 4}},
		{[]int{4, 1, 1}, []int{1, 4, 4}, []int{4, 4, 4}},
	} {
		checkJoin(t, c.a, c.b, c.want, api.OK)
	}
	for _, c := range [][2][]int{
		{{2}, {3}},
		{{2}, {4}}, // a side of 2 is not stretched, even to one that is twice as long
		{{2, 3}, {2}},
		{{2, 3}, {3, 2}},
		{{2, 3}, {2, 4}},
		{{2, 3}, {4, 3}},
		{{2, 3, 4}, {2, 4}},
		{{2, 3, 4}, {2, 1, 5}},
		{{16, 1}, {1, 5}}, // each may be, but not both joined
		{{16, 1}, {1, 16}},
		{{4, 4, 1}, {5}},
	} {
		checkJoin(t, c[0], c[1], nil, api.ErrShape)
	}
}

// checkJoin holds Join of a and b, either one first, and Fits, against what they are to be.
func checkJoin(t *testing.T, a, b, want []int, wantErr api.Errno) {
	t.Helper()
	for _, c := range [][2][]int{{a, b}, {b, a}} {
		l, err := Join(c[0], c[1])
		if !slices.Equal(l, want) || err != wantErr {
			t.Errorf("Join(%v, %v) is %v, %d; want %v, %d", c[0], c[1], l, err, want, wantErr)
		}
		fits := wantErr == api.OK && slices.Equal(want, c[1])
		if Fits(c[0], c[1]) != fits {
			t.Errorf("Fits(%v, %v) is %t", c[0], c[1], !fits)
		}
	}
}

// P2.3: what may not be is joined to nothing, not even to itself.
func TestJoinWrong(t *testing.T) {
	for _, s := range wrong() {
		checkJoin(t, s, s, nil, api.ErrShape)
		for _, other := range [][]int{nil, {1}, {2}, {4, 4, 4}, {0}} {
			checkJoin(t, s, other, nil, api.ErrShape)
		}
	}
}

// P2.3: the rule, side by side, on all pairs of some shapes.
func TestJoinAll(t *testing.T) {
	all := shapes()
	for _, a := range all {
		for _, b := range all {
			want, err := joined(a, b)
			checkJoin(t, a, b, want, err)
		}
	}
}

// joined is Join, written by the promise's words: sides of 1 are put ahead, then each place is looked at.
func joined(a, b []int) ([]int, api.Errno) {
	for len(a) < len(b) {
		a = append([]int{1}, a...)
	}
	for len(b) < len(a) {
		b = append([]int{1}, b...)
	}
	var l []int
	for i, side := range a {
		greater := max(side, b[i])
		if side != 1 && side != greater || b[i] != 1 && b[i] != greater {
			return nil, api.ErrShape
		}
		l = append(l, greater)
	}
	if !Check(l) {
		return nil, api.ErrShape
	}
	return l, api.OK
}

// P2.4: Join does not hang on which is first; what two are joined to both fit, and it fits itself.
func TestBothFit(t *testing.T) {
	all := shapes()
	for _, a := range all {
		for _, b := range all {
			l, err := Join(a, b)
			m, errBack := Join(b, a)
			if !slices.Equal(l, m) || err != errBack {
				t.Errorf("Join(%v, %v) is %v, %d; the other way %v, %d", a, b, l, err, m, errBack)
			}
			if err == api.OK && !(Fits(a, l) && Fits(b, l) && Fits(l, l)) {
				t.Errorf("%v, %v are joined to %v, which one of them does not fit", a, b, l)
			}
		}
	}
}

// R4: what is handed in is left as it was, its spare room too, and shares nothing with what is answered.
func TestMemory(t *testing.T) {
	a, b := []int{2, 3, 7, 7, 7}, []int{1, 3, 8, 8, 8}
	answers := func() [][]int {
		Check(a[:2])
		Size(a[:2])
		Place(a[:2], b[:2])
		Fits(b[:2], a[:2])
		index, _ := Index(a[:2], 4)
		same, _ := Join(a[:2], a[:2])
		wide, _ := Join(a[:2], b[:2])
		long, _ := Join(nil, a[:2])
		return [][]int{index, same, wide, long}
	}
	want := [][]int{{1, 1}, {2, 3}, {2, 3}, {2, 3}}
	got := answers()
	for i, l := range got {
		if !slices.Equal(l, want[i]) {
			t.Errorf("answer %d is %v; want %v", i, l, want[i])
		}
		for j := range l[:cap(l)] {
			l[:cap(l)][j] = 9
		}
	}
	if !slices.Equal(a, []int{2, 3, 7, 7, 7}) || !slices.Equal(b, []int{1, 3, 8, 8, 8}) {
		t.Errorf("what was handed in is now %v, %v", a, b)
	}
	for i, l := range answers() {
		if !slices.Equal(l, want[i]) {
			t.Errorf("answer %d, told again, is %v; want %v", i, l, want[i])
		}
	}
}
