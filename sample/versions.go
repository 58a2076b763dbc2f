package sample

import (
	"slices"

	"fuller/api"
)

// Version is a tensor from a stamp on.
func Version(stamp int, t api.Tensor) api.Version {
	return api.Version{Stamp: stamp, T: t}
}

// Versions are a list of them.
func Versions(l ...api.Version) []api.Version {
	return l
}

// Stamped are versions of one number each, its Stamp's tenfold.
func Stamped(stamps ...int) []api.Version {
	var l []api.Version
	for _, stamp := range stamps {
		l = append(l, Version(stamp, Cell(10*stamp)))
	}
	return l
}

// Rising are so many versions of a shape, from a stamp on, each so far behind the one ahead, and of other numbers.
func Rising(count, from, by int, s ...int) []api.Version {
	var l []api.Version
	for place := range count {
		l = append(l, Version(from+place*by, Counted(s, 100*(place+1))))
	}
	return l
}

// RightVersions may be: none, and as many as there may be, of stamps from one end to the other, and of shapes.
func RightVersions() [][]api.Version {
	all := [][]api.Version{
		nil, {}, Rising(3, 0, 1)[:0], Stamped(1, 3, 7), Stamped(0, Most), Stamped(0, 1, Most-1, Most), Stamped(5, 1<<32, 1<<32+5),
		Versions(Version(2, Cell(4)), Version(3, Of([]int{}, 4)), Version(9, Cell(4))),
		Versions(Version(0, Row(Least, Most)), Version(1, Row(0, 0)), Version(2, Row(0, 0))),
	}
	for _, s := range [][]int{nil, {1}, {2, 3}, {1, 1, 1}, {4, 4, 4}, {16, 4}} {
		for count := 1; count <= api.MaxVersions; count++ {
			all = append(all, Rising(count, 0, 1, s...), Rising(count, 7, 5, s...), Rising(count, Most-count+1, 1, s...))
		}
	}
	return all
}

// WrongVersions may not be: too many, or, at each place of some, a stamp that does not rise from 0 on, or a tensor that may not be, or is of another shape.
func WrongVersions() [][]api.Version {
	return slices.Concat(tooManyVersions(), wrongStamps(), wrongTensorsIn(), unlikeVersions())
}

// tooManyVersions are more than there may be, by one and by many.
func tooManyVersions() [][]api.Version {
	var all [][]api.Version
	for _, count := range []int{17, 18, 32, 255, 256, 256 + 3, 1<<16 + 3} {
		all = append(all, Rising(count, 0, 1), Rising(count, 3, 2, 2, 1))
	}
	return all
}

// inSome are some versions, and as many as there may be, each changed in each way that change tells of a place.
func inSome(change func(l []api.Version, place int) []api.Version, s ...int) [][]api.Version {
	var all [][]api.Version
	for _, count := range []int{1, 2, 3, api.MaxVersions} {
		l := Rising(count, 4, 3, s...)
		for place := range l {
			for _, wrong := range change(l, place) {
				changed := slices.Clone(l)
				changed[place] = wrong
				all = append(all, changed)
			}
		}
	}
	return all
}

// wrongStamps have a stamp below 0, or one that does not rise, by a little or by much.
func wrongStamps() [][]api.Version {
	all := inSome(func(l []api.Version, place int) []api.Version {
		stamps := []int{Least, Least + 1, -1 << 32, -256, -2, -1}
		if place > 0 {
			ahead := l[place-1].Stamp
			stamps = append(stamps, 0, ahead-1, ahead)
		}
		if place < len(l)-1 {
			behind := l[place+1].Stamp
			stamps = append(stamps, behind, behind+1, 1<<32, Most)
		}
		var wrong []api.Version
		for _, stamp := range stamps {
			wrong = append(wrong, Version(stamp, l[place].T))
		}
		return wrong
	}, 2)
	for count := 2; count <= api.MaxVersions; count++ {
		falling := Rising(count, 0, 1)
		slices.Reverse(falling)
		all = append(all, falling, Rising(count, 0, 0), Rising(count, 5, 0), Rising(count, -1, 1), Rising(count, Most-count+2, 1))
	}
	return all
}

// wrongTensorsIn have a tensor that may not be.
func wrongTensorsIn() [][]api.Version {
	return inSome(func(l []api.Version, place int) []api.Version {
		var wrong []api.Version
		for _, x := range append(WrongTensors(), Of([]int{2, 2}, 1, 2, 3), Of([]int{2, 2}, 1, 2, 3, 4, 5), Of([]int{2, 2})) {
			wrong = append(wrong, Version(l[place].Stamp, x))
		}
		return wrong
	}, 2, 2)
}

// unlikeVersions have a tensor of another shape, that may be.
func unlikeVersions() [][]api.Version {
	var all [][]api.Version
	for _, s := range [][]int{{}, {1}, {4}, {2, 2}, {1, 4}, {4, 1}, {1, 2, 2}, {2, 2, 1}} {
		all = append(all, inSome(func(l []api.Version, place int) []api.Version {
			var wrong []api.Version
			for _, other := range Shapes(1, 2, 4) {
				// One alone is of no other shape.
				if !slices.Equal(other, s) && len(l) > 1 {
					wrong = append(wrong, Version(l[place].Stamp, Counted(other, 5)))
				}
			}
			return wrong
		}, s...)...)
	}
	return all
}

// SameVersions tells whether a and b are the same ones.
func SameVersions(a, b []api.Version) bool {
	return slices.EqualFunc(a, b, func(v, w api.Version) bool { return v.Stamp == w.Stamp && Same(v.T, w.T) })
}

// VersionLists are the shape and the numbers of each version.
func VersionLists(l []api.Version) [][]int {
	var all []api.Tensor
	for _, v := range l {
		all = append(all, v.T)
	}
	return ListsOf(all)
}

// RoomyVersions are versions in a new list that has spare room, with something in it, and so have their own; and these with it.
func RoomyVersions(l []api.Version) ([]api.Version, [][]int) {
	var all []api.Version
	var handed [][]int
	for _, v := range l {
		x, lists := Roomy(v.T)
		all, handed = append(all, Version(v.Stamp, x)), append(handed, lists...)
	}
	all = append(all, Stamped(-3, -4)...)
	return all[:len(l)], handed
}
