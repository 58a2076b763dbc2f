package chain_test

import (
	"fmt"
	"testing"

	"fuller/api"
	"fuller/chain"
	"fuller/sample"
)

// checkApart holds versions against what they are to be, and that no two of their lists share any memory; and writes all of them over.
func checkApart(t *testing.T, call string, got, want []api.Version) {
	t.Helper()
	check(t, call, got, api.OK, want, api.OK)
	sample.ListsApart(t, sample.VersionLists(got), sample.VersionLists(want))
	clear(got[:cap(got)])
}

// few are some versions, and as many as there may be; of numbers, and of tables.
func few() [][]api.Version {
	return [][]api.Version{nil, stamped(0), stamped(1, 3, 7), rising(2, 4, 3, 2, 3), rising(15, 0, 2, 2), rising(16, 0, 2, 1, 1, 2)}
}

// held are versions, all of whose lists have spare room, with something in it, and what tells whether any of it was changed.
func held(l []api.Version) ([]api.Version, func() string) {
	roomy, handed := sample.RoomyVersions(l)
	return roomy, func() string { return fmt.Sprint(roomy[:cap(roomy)], handed) }
}

// R4, R5: what is read shares nothing with the versions, which are left as they were; again it is what it was.
func TestReadMemory(t *testing.T) {
	for _, want := range few() {
		l, told := held(want)
		before := told()
		for _, v := range want {
			sample.Apart(t, "Read", func() (api.Tensor, api.Errno) {
				x, _ := chain.Read(l, v.Stamp)
				return x, api.OK
			}, v.T, sample.VersionLists(l)...)
		}
		for _, stamp := range stampsAround(want) {
			chain.Check(l)
			chain.Read(l, stamp)
			chain.Newer(l, stamp)
		}
		if after := told(); after != before {
			t.Errorf("the versions are now %s, not %s", after, before)
		}
	}
}

// R4, R5: what is put, and the versions ahead of it, share nothing with what was handed in, which is left as it was, its spare room too; again it is what it was.
func TestPutMemory(t *testing.T) {
	for _, put := range few() {
		if len(put) == 0 {
			continue
		}
		last := len(put) - 1
		l, told := held(put[:last])
		x, lists := sample.Roomy(put[last].T)
		before, number := told(), fmt.Sprint(x, lists)
		for range 3 {
			got, err := chain.Put(l, put[last].Stamp, x)
			if err != api.OK {
				t.Errorf("Put behind %s: %d", short(l), err)
			}
			checkApart(t, "Put", got, put)
			if after := told(); after != before || fmt.Sprint(x, lists) != number {
				t.Errorf("the versions are now %s, not %s, the tensor %v, not %s", after, before, x, number)
			}
		}
	}
}

// R4, R5: what is left of versions shares nothing with them, and they are left as they were; again it is what it was.
func TestTrimMemory(t *testing.T) {
	for _, want := range few() {
		l, told := held(want)
		before := told()
		for place := 1; place < len(want); place++ {
			for range 3 {
				checkApart(t, "Trim", chain.Trim(l, want[place].Stamp), want[place:])
				if after := told(); after != before {
					t.Errorf("the versions are now %s, not %s", after, before)
				}
			}
		}
	}
}

// R3, R4: what stays as it was leaves what was handed in as that was, its spare room too.
func TestStays(t *testing.T) {
	all := append(few(), stamped(-1), stamped(3, 3), []api.Version{{}}, rising(17, 0, 1), append(stamped(1, 2), version(3, row(4))))
	for _, want := range all {
		l, told := held(want)
		x, lists := sample.Roomy(row(5, 6))
		before, number := told(), fmt.Sprint(x, lists)
		for _, stamp := range []int{least, -1, 0, 31, most} {
			if err := putError(want, stamp, x); err != api.OK {
				checkPut(t, l, stamp, x, err)
			}
			checkPut(t, l, stamp, api.Tensor{}, putError(want, stamp, api.Tensor{}))
		}
		for _, stamp := range []int{least, -1, most} {
			if stamp < 0 || !mayBe(want) {
				checkTrim(t, l, stamp, want)
			}
		}
		if after := told(); after != before || fmt.Sprint(x, lists) != number {
			t.Errorf("the versions are now %s, not %s, the tensor %v, not %s", after, before, x, number)
		}
	}
}

// R4: lists that the versions, or the tensor that is put, have in common are not in common any more.
func TestShared(t *testing.T) {
	x := row(1, 2)
	l := []api.Version{version(0, x), version(1, x), version(5, x)}
	got, err := chain.Put(l, 6, x)
	if err != api.OK {
		t.Errorf("Put: %d", err)
	}
	checkApart(t, "Put", got, append(l[:3:3], version(6, x)))
	checkApart(t, "Trim", chain.Trim(l, 1), l[1:])
	check(t, "what was handed in", l, api.OK, []api.Version{version(0, row(1, 2)), version(1, row(1, 2)), version(5, row(1, 2))}, api.OK)
}

// R4: what was put is as it was then, whatever becomes of the tensor, and of the versions that it stands behind.
func TestKept(t *testing.T) {
	whole := rising(16, 0, 3, 2, 2)
	var l []api.Version
	for place, v := range whole {
		x, lists := sample.Roomy(v.T)
		longer, err := chain.Put(l, v.Stamp, x)
		trimmed := chain.Trim(longer, v.Stamp)
		sample.Overwrite(x.Shape)
		for _, numbers := range append(lists, sample.VersionLists(l)...) {
			sample.Overwrite(numbers)
		}
		clear(l[:cap(l)])
		check(t, "what was put", longer, err, whole[:place+1], api.OK)
		if place > 0 {
			check(t, "what is left", trimmed, api.OK, whole[place:place+1], api.OK)
		}
		l = longer
	}
}

// R4: two that are put behind the same versions do not disturb each other.
func TestFork(t *testing.T) {
	for _, l := range few() {
		if len(l) == 16 || len(l) == 0 {
			continue
		}
		s, last := l[0].T.Shape, l[len(l)-1].Stamp
		start, _ := held(l)
		if len(l) > 1 {
			// As it comes out of a call, with whatever room that left.
			start, _ = chain.Put(l[:len(l)-1], last, l[len(l)-1].T)
		}
		a, _ := chain.Put(start, last+1, counted(s, 5))
		b, _ := chain.Put(start, last+2, counted(s, 6))
		check(t, "the first one", a, api.OK, append(l[:len(l):len(l)], version(last+1, counted(s, 5))), api.OK)
		check(t, "the second one", b, api.OK, append(l[:len(l):len(l)], version(last+2, counted(s, 6))), api.OK)
		check(t, "the start", start, api.OK, l, api.OK)
	}
}
