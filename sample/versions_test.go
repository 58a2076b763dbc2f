package sample

import (
	"fmt"
	"slices"
	"testing"

	"fuller/api"
	"fuller/tensor"
)

// faults tells, by the words of the chapter, why l may not be versions: too many, a stamp that does not rise, a tensor that may not be, or of another shape.
func faults(l []api.Version) [4]int {
	var told [4]int
	told[0] = max(0, len(l)-16)
	last := -1
	for _, v := range l {
		if v.Stamp <= last {
			told[1]++
		}
		last = v.Stamp
		if !tensor.Check(v.T) {
			told[2]++
		}
		if !slices.Equal(v.T.Shape, l[0].T.Shape) {
			told[3]++
		}
	}
	return told
}

func TestStamped(t *testing.T) {
	for _, c := range []struct {
		got  []api.Version
		want string
	}{
		{Stamped(), "[]"}, {Stamped(3, 1), "[{3 {[] [30]}} {1 {[] [10]}}]"}, {Rising(0, 1, 1), "[]"}, {Versions(), "[]"},
		{Rising(2, 4, 3), "[{4 {[] [100]}} {7 {[] [200]}}]"}, {Rising(2, 0, 0, 1, 2), "[{0 {[1 2] [100 101]}} {0 {[1 2] [200 201]}}]"},
		{Versions(Version(9, Row(1)), Version(8, Cell(2))), "[{9 {[1] [1]}} {8 {[] [2]}}]"},
	} {
		if got := fmt.Sprint(c.got); got != c.want {
			t.Errorf("versions are %s; want %s", got, c.want)
		}
	}
}

// Those that are right have no fault, and are of each count that there may be.
func TestRightVersions(t *testing.T) {
	counts := map[int]int{}
	for _, l := range RightVersions() {
		if told := faults(l); told != [4]int{} {
			t.Errorf("%v has the faults %v", l, told)
		}
		counts[len(l)]++
	}
	for count := range api.MaxVersions + 1 {
		if counts[count] == 0 {
			t.Errorf("of %d there are none", count)
		}
	}
}

// Those that are wrong have a fault, and there are some that have one of each kind alone.
func TestWrongVersions(t *testing.T) {
	alone := map[int]int{}
	for _, l := range WrongVersions() {
		told := faults(l)
		if told == [4]int{} {
			t.Errorf("%v has no fault", l)
		}
		for kind, times := range told {
			if rest := told; times > 0 {
				rest[kind] = 0
				if rest == [4]int{} {
					alone[kind]++
				}
			}
		}
	}
	for kind := range 4 {
		if alone[kind] == 0 {
			t.Errorf("none has the fault %d alone: %v", kind, alone)
		}
	}
}

func TestSameVersions(t *testing.T) {
	for _, c := range []struct {
		a, b []api.Version
		same bool
	}{
		{nil, []api.Version{}, true}, {Stamped(1, 2), Stamped(1, 2), true}, {Stamped(1), Versions(Version(1, Of([]int{}, 10))), true},
		{Stamped(1), Stamped(1, 2), false}, {Stamped(1, 2), Stamped(2, 1), false}, {Rising(2, 0, 1), Rising(2, 0, 2), false},
		{Rising(1, 0, 1), Rising(1, 0, 1, 1), false}, {Stamped(1), Versions(Version(1, Cell(11))), false},
	} {
		if SameVersions(c.a, c.b) != c.same {
			t.Errorf("%v and %v: not %v", c.a, c.b, c.same)
		}
	}
}

// Roomy versions are the same ones, in the lists beside them, and not in their own; all their lists have spare room.
func TestRoomyVersions(t *testing.T) {
	for _, l := range [][]api.Version{nil, Stamped(1), Rising(3, 0, 2, 2, 2)} {
		before := fmt.Sprint(l)
		got, lists := RoomyVersions(l)
		if !SameVersions(got, l) || cap(got) == len(got) || len(lists) != 2*len(l) || fmt.Sprint(VersionLists(got)) != fmt.Sprint(VersionLists(l)) {
			t.Errorf("%v is %v, with %v", l, got, lists)
		}
		for _, numbers := range VersionLists(got) {
			if cap(numbers) == len(numbers) {
				t.Errorf("%v has no spare room", numbers)
			}
		}
		for _, numbers := range lists {
			Overwrite(numbers)
		}
		if fmt.Sprint(l) != before || len(l) > 0 && SameVersions(got, l) {
			t.Errorf("written over, %v is %v, and was %s", l, got, before)
		}
	}
}
