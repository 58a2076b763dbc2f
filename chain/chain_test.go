package chain_test

import (
	"fmt"
	"slices"
	"testing"

	"fuller/api"
	"fuller/chain"
	"fuller/sample"
	"fuller/tensor"
)

const (
	least = sample.Least
	most  = sample.Most
)

var (
	cell, row, counted, of           = sample.Cell, sample.Row, sample.Counted, sample.Of
	version, versions, stamped, same = sample.Version, sample.Versions, sample.Stamped, sample.SameVersions
	rising                           = sample.Rising
)

// short is what versions are told by in a fault.
func short(l []api.Version) string {
	told := fmt.Sprint(len(l), " versions")
	for _, v := range l[:min(len(l), 20)] {
		told += fmt.Sprintf(" %d: %v %v", v.Stamp, v.T.Shape, v.T.Data[:min(len(v.T.Data), 8)])
	}
	return told
}

// check holds versions that a call answered against what they are to be.
func check(t *testing.T, call string, got []api.Version, err api.Errno, want []api.Version, wantErr api.Errno) {
	t.Helper()
	if !same(got, want) || err != wantErr {
		t.Errorf("%s: %s, %d; want %s, %d", call, short(got), err, short(want), wantErr)
	}
}

// checkRead holds Read against what it is to be: want, or, if that is empty, nothing.
func checkRead(t *testing.T, l []api.Version, stamp int, want api.Tensor) {
	t.Helper()
	there := len(want.Data) > 0
	if x, is := chain.Read(l, stamp); is != there || !sample.Same(x, want) {
		t.Errorf("Read at %d of %s is %v, %v; want %v, %v", stamp, short(l), x, is, want, there)
	}
}

// checkNewer holds Newer against what it is to be.
func checkNewer(t *testing.T, l []api.Version, stamp int, want bool) {
	t.Helper()
	if chain.Newer(l, stamp) != want {
		t.Errorf("Newer at %d of %s is not %v", stamp, short(l), want)
	}
}

// checkTrim holds Trim against what it is to be.
func checkTrim(t *testing.T, l []api.Version, stamp int, want []api.Version) {
	t.Helper()
	if got := chain.Trim(l, stamp); !same(got, want) {
		t.Errorf("Trim at %d of %s is %s; want %s", stamp, short(l), short(got), short(want))
	}
}

// checkPut holds Put against what it is to be, which is l as it is beside an error.
func checkPut(t *testing.T, l []api.Version, stamp int, x api.Tensor, wantErr api.Errno) {
	t.Helper()
	want := l
	if wantErr == api.OK {
		want = append(slices.Clone(l), version(stamp, x))
	}
	if got, err := chain.Put(l, stamp, x); !same(got, want) || err != wantErr {
		t.Errorf("Put at %d of a tensor of %v behind %s is %s, %d; want %s, %d", stamp, x.Shape, short(l), short(got), err, short(want), wantErr)
	}
}

// mayBe tells whether l may be, by the words of the chapter.
func mayBe(l []api.Version) bool {
	for place, v := range l {
		if v.Stamp < 0 || !tensor.Check(v.T) {
			return false
		}
		for _, behind := range l[place+1:] {
			if behind.Stamp <= v.Stamp || !slices.Equal(behind.T.Shape, v.T.Shape) {
				return false
			}
		}
	}
	return len(l) <= 16
}

// checkWords holds what is told of l at a stamp against the words of the chapter.
func checkWords(t *testing.T, l []api.Version, stamp int) {
	t.Helper()
	at, newer := -1, false
	for place, v := range l {
		if v.Stamp <= stamp {
			at = place
		}
		newer = newer || v.Stamp > stamp
	}
	switch {
	case !mayBe(l):
		checkRead(t, l, stamp, api.Tensor{})
		checkNewer(t, l, stamp, false)
		checkTrim(t, l, stamp, l)
	case at < 0:
		checkRead(t, l, stamp, api.Tensor{})
		checkNewer(t, l, stamp, newer)
		checkTrim(t, l, stamp, l)
	default:
		checkRead(t, l, stamp, l[at].T)
		checkNewer(t, l, stamp, newer)
		checkTrim(t, l, stamp, l[at:])
	}
}

// putError is what Put is to tell, by the words of the chapter.
func putError(l []api.Version, stamp int, x api.Tensor) api.Errno {
	above := stamp >= 0
	for _, v := range l {
		above = above && stamp > v.Stamp
	}
	if !mayBe(l) || !above {
		return api.ErrStamp
	}
	if !tensor.Check(x) {
		return api.ErrTensor
	}
	if len(l) > 0 && !slices.Equal(x.Shape, l[0].T.Shape) {
		return api.ErrShape
	}
	if len(l) == 16 {
		return api.ErrFull
	}
	return api.OK
}

// stampsAround are stamps below 0, at either end, and at each version's own, and beside it.
func stampsAround(l []api.Version) []int {
	all := []int{least, -1 << 32, -1, 0, 1, 1 << 32, most - 1, most}
	for _, v := range l[:min(len(l), 17)] {
		all = append(all, v.Stamp-1, v.Stamp, v.Stamp+1)
	}
	return all
}

// P17.1: the edges that the chapter names.
func TestCheck(t *testing.T) {
	for _, l := range sample.RightVersions() {
		if !chain.Check(l) {
			t.Errorf("%s may not be", short(l))
		}
	}
	for _, l := range sample.WrongVersions() {
		if chain.Check(l) {
			t.Errorf("%s may be", short(l))
		}
	}
	for _, c := range []struct {
		l    []api.Version
		want bool
	}{
		{nil, true}, {[]api.Version{}, true}, {stamped(0), true}, {stamped(1), true}, {stamped(-1), false}, {stamped(most), true}, {stamped(least), false},
		{stamped(1, 2), true}, {stamped(1, 1), false}, {stamped(2, 1), false}, {stamped(1, 3, 2), false}, {stamped(2, 1, 3), false}, {stamped(-1, 0), false}, {stamped(0, -1), false},
		{[]api.Version{{}}, false}, {versions(version(1, row(1))), true}, {versions(version(1, row())), false}, {versions(version(1, row(1)), version(2, cell(1))), false},
		{rising(16, 0, 1), true}, {rising(17, 0, 1), false}, {rising(16, 0, 1, 4, 4, 4), true}, {rising(17, 0, 1, 4, 4, 4), false}, {rising(100000, 0, 1), false},
	} {
		if chain.Check(c.l) != c.want {
			t.Errorf("%s: Check is not %v", short(c.l), c.want)
		}
	}
}

// P17.1: stamps below 0, at, between and above the versions' own.
func TestRead(t *testing.T) {
	l, none := stamped(1, 3, 7), api.Tensor{}
	for _, c := range []struct {
		l     []api.Version
		stamp int
		want  api.Tensor
		newer bool
	}{
		{l, least, none, true}, {l, -1, none, true}, {l, 0, none, true}, {l, 1, cell(10), true}, {l, 2, cell(10), true}, {l, 3, cell(30), true}, {l, 4, cell(30), true},
		{l, 6, cell(30), true}, {l, 7, cell(70), false}, {l, 8, cell(70), false}, {l, 1 << 40, cell(70), false}, {l, most, cell(70), false},
		{nil, least, none, false}, {nil, -1, none, false}, {nil, 0, none, false}, {[]api.Version{}, 5, none, false}, {nil, most, none, false},
		{stamped(0), least, none, true}, {stamped(0), -1, none, true}, {stamped(0), 0, cell(0), false}, {stamped(0), 1, cell(0), false}, {stamped(0), most, cell(0), false},
		{stamped(most), most - 1, none, true}, {stamped(most), most, cell(-10), false}, {stamped(0, most), most - 1, cell(0), true}, {stamped(0, most), most, cell(-10), false},
		{rising(2, 5, 1, 1, 3), 5, of([]int{1, 3}, 100, 101, 102), true}, {rising(2, 5, 1, 1, 3), 6, of([]int{1, 3}, 200, 201, 202), false}, {rising(2, 5, 1, 1, 3), 4, none, true},
		{rising(16, 0, 2), 29, cell(1500), true}, {rising(16, 0, 2), 30, cell(1600), false}, {rising(16, 0, 2), 0, cell(100), true}, {rising(16, 0, 2), 1, cell(100), true},
		{stamped(1<<32, 1<<33), 1, none, true}, {stamped(1, 1<<32), 1<<32 - 1, cell(10), true}, {stamped(1, 1<<32), 1 << 32, cell(10 << 32), false},
	} {
		checkRead(t, c.l, c.stamp, c.want)
		checkNewer(t, c.l, c.stamp, c.newer)
	}
}

// P17.2: the versions ahead of the one at a stamp are left out, that one stays.
func TestTrim(t *testing.T) {
	l := stamped(1, 3, 7)
	for _, c := range []struct {
		l     []api.Version
		stamp int
		want  []api.Version
	}{
		{l, 5, stamped(3, 7)}, {l, 3, stamped(3, 7)}, {l, 4, stamped(3, 7)}, {l, 6, stamped(3, 7)}, {l, 7, stamped(7)}, {l, 8, stamped(7)}, {l, most, stamped(7)},
		{l, least, l}, {l, -1, l}, {l, 0, l}, {l, 1, l}, {l, 2, l},
		{nil, 0, nil}, {nil, most, nil}, {[]api.Version{}, 5, nil}, {stamped(0), -1, stamped(0)}, {stamped(0), 0, stamped(0)}, {stamped(0), most, stamped(0)}, {stamped(most), most, stamped(most)},
		{stamped(0, 5), 0, stamped(0, 5)}, {stamped(0, 5), 4, stamped(0, 5)}, {stamped(0, 5), 5, stamped(5)}, {stamped(0, most), most, stamped(most)}, {stamped(0, most), most - 1, stamped(0, most)},
		{rising(16, 0, 1), 15, rising(16, 0, 1)[15:]}, {rising(16, 0, 1), 14, rising(16, 0, 1)[14:]}, {rising(16, 0, 1, 2, 3), 8, rising(16, 0, 1, 2, 3)[8:]}, {rising(16, 0, 1), 0, rising(16, 0, 1)},
	} {
		checkTrim(t, c.l, c.stamp, c.want)
	}
}

// P17.2: what may be put, what not, and why; the first error that holds is told.
func TestPut(t *testing.T) {
	l, full := stamped(1, 3, 7), rising(16, 0, 2)
	tables := rising(2, 4, 1, 2, 3)
	for _, c := range []struct {
		l     []api.Version
		stamp int
		x     api.Tensor
		err   api.Errno
	}{
		{l, 8, cell(5), api.OK}, {l, 1 << 40, cell(least), api.OK}, {l, most, cell(5), api.OK}, {l, 8, cell(70), api.OK}, {nil, 0, cell(5), api.OK}, {nil, most, row(1, 2), api.OK}, {[]api.Version{}, 3, counted([]int{4, 4, 4}, 1), api.OK},
		{l, 8, of([]int{}, 5), api.OK}, {stamped(0), 1, cell(5), api.OK}, {full[:15], 29, cell(5), api.OK}, {tables, 6, counted([]int{2, 3}, 0), api.OK}, {stamped(most - 1), most, cell(5), api.OK},
		{l, 7, cell(5), api.ErrStamp}, {l, 6, cell(5), api.ErrStamp}, {l, 3, cell(5), api.ErrStamp}, {l, 2, cell(5), api.ErrStamp}, {l, 0, cell(5), api.ErrStamp}, {l, -1, cell(5), api.ErrStamp}, {l, least, cell(5), api.ErrStamp},
		{nil, -1, cell(5), api.ErrStamp}, {nil, least, cell(5), api.ErrStamp}, {stamped(0), 0, cell(5), api.ErrStamp}, {stamped(most), most, cell(5), api.ErrStamp}, {stamped(most), most - 1, cell(5), api.ErrStamp},
		{stamped(-1), 5, cell(5), api.ErrStamp}, {stamped(1, 1), 5, cell(5), api.ErrStamp}, {stamped(2, 1), 5, cell(5), api.ErrStamp}, {rising(17, 0, 1), 40, cell(5), api.ErrStamp}, {[]api.Version{{}}, 5, cell(5), api.ErrStamp},
		{l, 8, api.Tensor{}, api.ErrTensor}, {nil, 0, api.Tensor{}, api.ErrTensor}, {l, 8, of([]int{0}), api.ErrTensor}, {l, 8, of([]int{2}, 1), api.ErrTensor}, {tables, 6, of([]int{2, 3}, 1), api.ErrTensor}, {nil, 0, of([]int{17}, make([]int, 17)...), api.ErrTensor},
		{l, 8, row(1), api.ErrShape}, {tables, 6, counted([]int{3, 2}, 0), api.ErrShape}, {tables, 6, counted([]int{6}, 0), api.ErrShape}, {tables, 6, counted([]int{3}, 0), api.ErrShape}, {tables, 6, cell(1), api.ErrShape}, {tables, 6, counted([]int{1, 2, 3}, 0), api.ErrShape}, {tables, 6, counted([]int{2, 1}, 0), api.ErrShape},
		{full, 31, cell(5), api.ErrFull}, {full, most, cell(5), api.ErrFull},
		// Several hold.
		{full, 30, cell(5), api.ErrStamp}, {full, 30, api.Tensor{}, api.ErrStamp}, {full, 30, row(1), api.ErrStamp}, {full, 31, api.Tensor{}, api.ErrTensor}, {full, 31, of([]int{1}), api.ErrTensor}, {full, 31, row(1), api.ErrShape},
		{l, 7, api.Tensor{}, api.ErrStamp}, {l, 7, row(1), api.ErrStamp}, {l, 8, of([]int{1}), api.ErrTensor}, {nil, -1, api.Tensor{}, api.ErrStamp}, {stamped(-1), -1, api.Tensor{}, api.ErrStamp}, {rising(17, 0, 1), 40, api.Tensor{}, api.ErrStamp}, {rising(17, 0, 1), 40, row(1), api.ErrStamp},
	} {
		checkPut(t, c.l, c.stamp, c.x, c.err)
	}
}

// P17.2: one behind the other, up to as many as there may be, from any stamp on, and of any shape.
func TestPutFull(t *testing.T) {
	for _, s := range append(sample.Shapes(1, 2, 16), []int{13}, []int{7, 9}) {
		for _, want := range [][]api.Version{rising(16, 0, 1, s...), rising(16, 3, 1<<32, s...), rising(16, most-15, 1, s...)} {
			var l []api.Version
			for place, v := range want {
				checkPut(t, l, v.Stamp, v.T, api.OK)
				l, _ = chain.Put(l, v.Stamp, v.T)
				check(t, "what was put", l, api.OK, want[:place+1], api.OK)
			}
			if last := want[15].Stamp; last < most {
				checkPut(t, l, last+1, counted(s, 1), api.ErrFull)
				checkPut(t, l, most, counted(s, 1), api.ErrFull)
				// One that is trimmed leaves room for one.
				l = chain.Trim(l, want[1].Stamp)
				checkPut(t, l, last+1, counted(s, 1), api.OK)
			}
			checkPut(t, l, want[15].Stamp, counted(s, 1), api.ErrStamp)
		}
	}
}

// P17.1, P17.2: versions that may be, at all stamps around their own.
func TestRight(t *testing.T) {
	tensors := append(sample.WrongTensors(), cell(5), row(5), counted([]int{2, 3}, 5), counted([]int{4, 4, 4}, 5))
	for _, l := range sample.RightVersions() {
		for _, stamp := range stampsAround(l) {
			checkWords(t, l, stamp)
			for _, x := range tensors {
				checkPut(t, l, stamp, x, putError(l, stamp, x))
			}
		}
	}
}

// P17.1, P17.2: of versions that may not be nothing is told, and they stay as they are.
func TestWrong(t *testing.T) {
	for _, l := range sample.WrongVersions() {
		for _, stamp := range []int{least, -1, 0, 1, 7, 9, 50, 1 << 40, most} {
			checkRead(t, l, stamp, api.Tensor{})
			checkNewer(t, l, stamp, false)
		}
		for _, stamp := range []int{-1, 7, most} {
			checkTrim(t, l, stamp, l)
		}
		checkPut(t, l, most, l[0].T, api.ErrStamp)
		checkPut(t, l, -1, cell(5), api.ErrStamp)
		checkPut(t, l, most, api.Tensor{}, api.ErrStamp)
	}
}

// P17.1, P17.2: all lists of up to three of some versions, right and wrong, at all stamps around them.
func TestLists(t *testing.T) {
	var all []api.Version
	for _, stamp := range []int{least, -1, 0, 1, 3, most} {
		for _, x := range []api.Tensor{cell(1), row(2), {}, of([]int{1}, 1, 2)} {
			all = append(all, version(stamp, x))
		}
	}
	tensors := []api.Tensor{cell(5), row(6), {}, counted([]int{1, 1}, 7)}
	told := map[api.Errno]int{}
	for _, l := range sample.Lists(3, all...) {
		if chain.Check(l) != mayBe(l) {
			t.Errorf("%s: Check is not %v", short(l), mayBe(l))
		}
		for _, stamp := range []int{least, -1, 0, 1, 2, 3, 4, most - 1, most} {
			checkWords(t, l, stamp)
			x := tensors[(len(l)+stamp&7)%len(tensors)]
			err := putError(l, stamp, x)
			checkPut(t, l, stamp, x, err)
			told[err]++
		}
	}
	for _, err := range []api.Errno{api.OK, api.ErrStamp, api.ErrTensor, api.ErrShape} {
		if told[err] == 0 {
			t.Errorf("answers are %v, none of them %d", told, err)
		}
	}
}

// P17.3: from the stamp on at which they were trimmed, and for whatever is put behind then, versions are read as ahead of that.
func TestTrimmed(t *testing.T) {
	for _, l := range sample.RightVersions() {
		for _, at := range stampsAround(l) {
			trimmed := chain.Trim(l, at)
			if !chain.Check(trimmed) || len(trimmed) > 1 && trimmed[1].Stamp <= at {
				t.Errorf("trimmed at %d, %s is %s", at, short(l), short(trimmed))
			}
			check(t, "trimmed again", chain.Trim(trimmed, at), api.OK, trimmed, api.OK)
			for _, stamp := range stampsAround(l) {
				if stamp < at {
					continue
				}
				want, _ := chain.Read(l, stamp)
				checkRead(t, trimmed, stamp, want)
				checkNewer(t, trimmed, stamp, chain.Newer(l, stamp))
				checkTrim(t, trimmed, stamp, chain.Trim(l, stamp))
			}
		}
	}
}

// P17.3: what was put is read from its stamp on, and what is read ahead of that is not changed.
func TestPutRead(t *testing.T) {
	for _, l := range sample.RightVersions() {
		s := []int(nil)
		if len(l) > 0 {
			s = l[0].T.Shape
		}
		x := counted(s, -7)
		for _, from := range stampsAround(l) {
			longer, err := chain.Put(l, from, x)
			if err != api.OK {
				check(t, "beside an error", longer, err, l, putError(l, from, x))
				continue
			}
			for _, stamp := range append(stampsAround(l), from-1, from, from+1) {
				want, _ := chain.Read(l, stamp)
				if stamp >= from {
					want = x
				}
				checkRead(t, longer, stamp, want)
				checkNewer(t, longer, stamp, stamp < from)
			}
		}
	}
}

// P17.3: puts and trims, one behind the other, however many: what was put is read as if nothing had been trimmed, from the last trimmed stamp on.
func TestLong(t *testing.T) {
	for _, room := range []int{1, 2, 5, 15, 16} {
		var l, all []api.Version
		trimmed := -1
		for step := range 300 {
			stamp, x := 3*step+step%2, row(step, -step)
			all = append(all, version(stamp, x))
			longer, err := chain.Put(l, stamp, x)
			if err != api.OK {
				t.Fatalf("step %d of room %d: %d, behind %s", step, room, err, short(l))
			}
			l = longer
			if len(l) >= room {
				trimmed = all[max(0, step-room/2)].Stamp + step%3
				l = chain.Trim(l, trimmed)
			}
			for past := max(trimmed, stamp-40); past <= stamp+2; past++ {
				var want api.Tensor
				for _, v := range all {
					if v.Stamp <= past {
						want = v.T
					}
				}
				checkRead(t, l, past, want)
				checkNewer(t, l, past, past < stamp)
			}
		}
	}
}
