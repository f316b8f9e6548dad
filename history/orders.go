package history

import (
	"cmp"

	"millrind/api"
)

// order compares two notes, as a sort asks for it.
type order func(a, b api.Note) int

func byName() order { return by(houseOf, numOf) }

func byClock() order { return by(clockOf, houseOf, numOf) }

// byEffect is the order in which notes take effect.
func byEffect() order { return by(dayOf, clockOf, houseOf, numOf) }

// by returns the order by some numbers of notes; of these each one matters only where all ahead of it are equal.
func by(numbers ...func(api.Note) int) order {
	return func(a, b api.Note) int {
		for _, number := range numbers {
			if c := cmp.Compare(number(a), number(b)); c != 0 {
				return c
			}
		}
		return 0
	}
}

func houseOf(n api.Note) int { return n.House }

func numOf(n api.Note) int { return n.Num }

func clockOf(n api.Note) int { return n.Clock }

func dayOf(n api.Note) int { return n.Day }
