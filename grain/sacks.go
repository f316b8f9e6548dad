package grain

import "millrind/api"

// nearby is for how many sizes in a row a sack keeps what was found.
const nearby = 32

// GradeOf returns the grade of a number of cuts.
func GradeOf(grades []int, cuts int) (int, api.Errno) {
	if !ValidGrades(grades) {
		return 0, api.ErrGrades
	}
	if cuts < 0 {
		return 0, api.ErrArg
	}
	grade := 0
	for i, mark := range grades {
		if mark <= cuts {
			grade = i
		}
	}
	return grade, api.OK
}

// GradeSet returns the grades that a grain may have.
func GradeSet(m api.Mill, grades []int, s api.State, size int) ([]int, api.Errno) {
	if e := checkGrades(m, grades); e != api.OK {
		return nil, e
	}
	all, e := cutsAt(m, s, size)
	if e != api.OK {
		return nil, e
	}
	return gradesOf(grades, all), api.OK
}

// SackOf returns what a sack has of each grade.
func SackOf(m api.Mill, grades []int, size api.Span, each int) (api.Sack, api.Errno) {
	if e := checkGrades(m, grades); e != api.OK {
		return api.Sack{}, e
	}
	if !isSpan(size, api.MaxSize) || each < 0 {
		return api.Sack{}, api.ErrArg
	}
	// There is an entry for each sector at each turn.
	sectors := m.Pair.Bed.Sectors
	if each > api.MaxGrains/(length(size)*sectors*sectors) {
		return api.Sack{}, api.ErrLimit
	}
	entries, e := safeEntries(m, size)
	if e != api.OK {
		return api.Sack{}, e
	}
	sack := api.Sack{Least: make([]int, len(grades)), Most: make([]int, len(grades))}
	if each > 0 {
		fill(sack, chartOf(m), entries, grades, size, each)
	}
	return sack, api.OK
}

// fill puts so many grains of each size of a span into a sack, from each of some states.
func fill(sack api.Sack, c *chart, from []api.State, grades []int, size api.Span, each int) {
	var find func(crowd) counts
	for n := size.Lo; n <= size.Hi; n++ {
		// What was found helps with sizes nearby; kept for all of them, it would be too much.
		if (n-size.Lo)%nearby == 0 {
			find = c.finder(size.Hi)
		}
		for _, s := range from {
			set := gradesOf(grades, find(alone(s, n)))
			for _, grade := range set {
				sack.Most[grade] += each
			}
			if len(set) == 1 {
				sack.Least[set[0]] += each
			}
		}
	}
}

// checkGrades returns what is wrong with a mill and grades first.
func checkGrades(m api.Mill, grades []int) api.Errno {
	if e := CheckMill(m); e != api.OK {
		return e
	}
	if !ValidGrades(grades) {
		return api.ErrGrades
	}
	return api.OK
}

// gradesOf returns the grades of all numbers of cuts, increasing.
func gradesOf(grades []int, cuts counts) []int {
	var set []int
	for i, mark := range grades {
		x := api.Span{Lo: mark, Hi: cuts.span.Hi}
		if i+1 < len(grades) {
			x.Hi = grades[i+1] - 1
		}
		if cuts.hasAny(x) {
			set = append(set, i)
		}
	}
	return set
}
