package silent

import (
	"math"
	"slices"
	"testing"
)

// P7.1

// specUnion is a second definition of Union: each number takes its place unless it has one.
func specUnion(a, b []int) []int {
	var l []int
	for _, list := range [][]int{a, b} {
		for _, n := range list {
			if at, there := slices.BinarySearch(l, n); !there {
				l = slices.Insert(l, at, n)
			}
		}
	}
	return l
}

func wantUnion(t *testing.T, a, b, want []int) {
	t.Helper()
	if got := Union(a, b); !slices.Equal(got, want) {
		t.Errorf("Union(%v, %v) = %v; want %v", a, b, got, want)
	}
	if got := Union(b, a); !slices.Equal(got, want) {
		t.Errorf("Union(%v, %v) = %v; want %v", b, a, got, want)
	}
}

func TestExampleOfUnion(t *testing.T) {
	wantUnion(t, []int{3, 1}, []int{1, 2}, []int{1, 2, 3})
}

func TestUnionOfAscendingLists(t *testing.T) {
	wantUnion(t, []int{1}, []int{2}, []int{1, 2})
	wantUnion(t, []int{1, 2}, []int{3, 4}, []int{1, 2, 3, 4})
	wantUnion(t, []int{1, 3, 5}, []int{2, 4, 6}, []int{1, 2, 3, 4, 5, 6})
	wantUnion(t, []int{1, 6}, []int{2, 3, 4}, []int{1, 2, 3, 4, 6})
	wantUnion(t, []int{0, 2, 4}, []int{0, 2, 4}, []int{0, 2, 4})
	wantUnion(t, []int{0, 2, 4}, []int{2}, []int{0, 2, 4})
	wantUnion(t, []int{0, 2, 4}, []int{1, 2, 9}, []int{0, 1, 2, 4, 9})
	wantUnion(t, []int{9, 10, 100}, []int{11}, []int{9, 10, 11, 100})
}

func TestUnionOfUnsortedLists(t *testing.T) {
	wantUnion(t, []int{4, 3, 2, 1}, []int{8, 7, 6, 5}, []int{1, 2, 3, 4, 5, 6, 7, 8})
	wantUnion(t, []int{2, 5, 1}, []int{4, 0, 3}, []int{0, 1, 2, 3, 4, 5})
	wantUnion(t, []int{2, 5, 1}, nil, []int{1, 2, 5})
	wantUnion(t, []int{5, 1}, []int{1, 5}, []int{1, 5})
	wantUnion(t, []int{5, 1}, []int{2, 3}, []int{1, 2, 3, 5})
}

func TestUnionOfListsWithRepeatedNumbers(t *testing.T) {
	wantUnion(t, []int{1, 1}, []int{1, 1, 1}, []int{1})
	wantUnion(t, []int{1, 1, 2, 2}, nil, []int{1, 2})
	wantUnion(t, []int{2, 1, 2, 1}, []int{3, 1, 3}, []int{1, 2, 3})
	wantUnion(t, []int{0, 0}, []int{0}, []int{0})
	wantUnion(t, []int{7, 7, 7, 7}, []int{8, 8, 8}, []int{7, 8})
}

func TestUnionOfNegativeAndGreatNumbers(t *testing.T) {
	wantUnion(t, []int{-1, 1}, []int{0, -2}, []int{-2, -1, 0, 1})
	wantUnion(t, []int{-1, -1}, []int{-1, 1}, []int{-1, 1})
	wantUnion(t, []int{math.MaxInt, 0, math.MinInt}, []int{math.MinInt + 1, math.MaxInt - 1, math.MaxInt}, []int{math.MinInt, math.MinInt + 1, 0, math.MaxInt - 1, math.MaxInt})
	wantUnion(t, []int{1 << 32, 1<<32 + 1}, []int{0, 1}, []int{0, 1, 1 << 32, 1<<32 + 1})
}

func TestUnionOfNilAndEmptyLists(t *testing.T) {
	for _, a := range [][]int{nil, {}} {
		for _, b := range [][]int{nil, {}} {
			wantUnion(t, a, b, nil)
		}
		wantUnion(t, a, []int{0}, []int{0})
		wantUnion(t, a, []int{3, -1, 3}, []int{-1, 3})
	}
}

// shortLists returns all lists of at most n of some elements.
func shortLists[T any](n int, elements ...T) [][]T {
	all := [][]T{nil}
	for from := 0; n > 0; n-- {
		to := len(all)
		for _, l := range all[from:to] {
			for _, x := range elements {
				all = append(all, slices.Concat(l, []T{x}))
			}
		}
		from = to
	}
	return all
}

func TestUnionOfAllShortLists(t *testing.T) {
	lists := shortLists(4, -1, 0, 1, 2)
	for _, a := range lists {
		for _, b := range lists {
			if got, want := Union(a, b), specUnion(a, b); !slices.Equal(got, want) {
				t.Fatalf("Union(%v, %v) = %v; want %v", a, b, got, want)
			}
		}
	}
}
