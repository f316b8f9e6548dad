package grain_test

import (
	"math"
	"testing"

	"millrind/api"
	"millrind/grain"
)

// P3.1, G1: which sorts are valid.
func TestValidSort(t *testing.T) {
	span := func(lo, hi int) api.Span { return api.Span{Lo: lo, Hi: hi} }
	for _, s := range []api.Sort{
		{ID: 1, Hard: span(1, 1), Size: span(1, 1)},
		{ID: math.MaxInt, Hard: span(1, api.MaxHard), Size: span(1, api.MaxSize)},
		{ID: 7, Hard: span(api.MaxHard, api.MaxHard), Size: span(api.MaxSize, api.MaxSize)},
	} {
		if !grain.ValidSort(s) {
			t.Errorf("%v is valid", s)
		}
	}
	for _, s := range []api.Sort{
		{},
		{ID: 0, Hard: span(1, 2), Size: span(1, 2)},
		{ID: -1, Hard: span(1, 2), Size: span(1, 2)},
		{ID: math.MinInt, Hard: span(1, 2), Size: span(1, 2)},
		{ID: 1, Hard: span(0, 2), Size: span(1, 2)},
		{ID: 1, Hard: span(-5, 2), Size: span(1, 2)},
		{ID: 1, Hard: span(2, 1), Size: span(1, 2)},
		{ID: 1, Hard: span(1, api.MaxHard+1), Size: span(1, 2)},
		{ID: 1, Hard: span(1, math.MaxInt), Size: span(1, 2)},
		{ID: 1, Size: span(1, 2)},
		{ID: 1, Hard: span(1, 2)},
		{ID: 1, Hard: span(1, 2), Size: span(0, 2)},
		{ID: 1, Hard: span(1, 2), Size: span(math.MinInt, 2)},
		{ID: 1, Hard: span(1, 2), Size: span(3, 2)},
		{ID: 1, Hard: span(1, 2), Size: span(1, api.MaxSize+1)},
	} {
		if grain.ValidSort(s) {
			t.Errorf("%v is not valid", s)
		}
	}
}

// P3.1, G2: which mills are valid, and what comes first.
func TestCheckMill(t *testing.T) {
	large := plain(api.MaxRings, api.MaxSectors, 1, api.Move{Out: 1})
	for what, x := range map[string]struct {
		change func(m *api.Mill)
		want   api.Errno
	}{
		"as it is":                   {func(m *api.Mill) {}, api.OK},
		"no gap":                     {func(m *api.Mill) { m.Gap = []int{0, 0} }, api.OK},
		"the widest gaps":            {func(m *api.Mill) { m.Gap = []int{api.MaxSize, api.MaxSize} }, api.OK},
		"nothing":                    {func(m *api.Mill) { *m = api.Mill{} }, api.ErrPair},
		"no drive":                   {func(m *api.Mill) { m.Pair.Drive, m.Gap = nil, nil }, api.ErrPair},
		"another bed":                {func(m *api.Mill) { m.Pair.Bed = plainFace(1, 3) }, api.ErrPair},
		"a large pair":               {func(m *api.Mill) { *m = large }, api.ErrLimit},
		"a large pair without gaps":  {func(m *api.Mill) { *m = large; m.Gap = nil }, api.ErrLimit},
		"no gaps":                    {func(m *api.Mill) { m.Gap = nil }, api.ErrMill},
		"a gap too few":              {func(m *api.Mill) { m.Gap = m.Gap[:1] }, api.ErrMill},
		"a gap too many":             {func(m *api.Mill) { m.Gap = append(m.Gap, 1) }, api.ErrMill},
		"a negative gap":             {func(m *api.Mill) { m.Gap[0] = -1 }, api.ErrMill},
		"a negative gap at last":     {func(m *api.Mill) { m.Gap[1] = math.MinInt }, api.ErrMill},
		"too wide a gap":             {func(m *api.Mill) { m.Gap[0] = api.MaxSize + 1 }, api.ErrMill},
		"too wide a gap at last":     {func(m *api.Mill) { m.Gap[1] = math.MaxInt }, api.ErrMill},
		"a gap for each state":       {func(m *api.Mill) { m.Gap = make([]int, 4) }, api.ErrMill},
		"a gap for each ring":        {func(m *api.Mill) { *m = plain(3, 2, 1, api.Move{Out: 1}); m.Gap = m.Gap[:3] }, api.ErrMill},
		"gaps of several rings":      {func(m *api.Mill) { *m = plain(3, 2, 1, api.Move{Out: 1}) }, api.OK},
		"as many states as may be":   {func(m *api.Mill) { *m = plain(16, 64, 1, api.Move{Out: 1}) }, api.OK},
		"a pair that lets grains be": {func(m *api.Mill) { *m = sampleTrap() }, api.OK},
	} {
		m := sampleFree()
		x.change(&m)
		if e := grain.CheckMill(m); e != x.want {
			t.Errorf("CheckMill of %s: error %d, want %d", what, e, x.want)
		}
	}
}

// P3.1, G3: which grades are valid.
func TestValidGrades(t *testing.T) {
	for _, l := range [][]int{{0}, {0, 1}, {0, 64}, {0, 2, 5}, {0, 1, 2, 3, 4, 5, 6, 7}, {0, 58, 59, 60, 61, 62, 63, 64}} {
		if !grain.ValidGrades(l) {
			t.Errorf("%v are grades", l)
		}
	}
	for _, l := range [][]int{
		nil, {}, {1}, {-1}, {64}, {0, 0}, {0, -1}, {-1, 0}, {0, 65}, {0, math.MaxInt}, {0, math.MinInt}, {0, 3, 3}, {0, 4, 3}, {0, 4, 3, 5},
		{1, 2}, {0, 64, 65}, {0, 65, 64}, {0, 1, 2, 3, 4, 5, 6, 7, 8}, {0, math.MaxInt, math.MinInt},
	} {
		if grain.ValidGrades(l) {
			t.Errorf("%v are no grades", l)
		}
	}
}

// P3.1, G4: which feeds are valid.
func TestValidFeed(t *testing.T) {
	for _, f := range []api.Feed{
		{Hopper: 0, Draw: 1, Knocks: 1},
		{Hopper: 1, Draw: api.MaxGrains, Knocks: api.MaxTeeth},
		{Hopper: api.MaxGrains, Draw: 1, Knocks: 1},
	} {
		if !grain.ValidFeed(f) {
			t.Errorf("%v is valid", f)
		}
	}
	for _, f := range badFeeds() {
		if grain.ValidFeed(f) {
			t.Errorf("%v is not valid", f)
		}
	}
}

func badFeeds() []api.Feed {
	var l []api.Feed
	for _, n := range []int{-1, math.MinInt, api.MaxGrains + 1, math.MaxInt} {
		l = append(l, api.Feed{Hopper: n, Draw: 1, Knocks: 1}, api.Feed{Hopper: 1, Draw: n, Knocks: 1}, api.Feed{Hopper: 1, Draw: 1, Knocks: n})
	}
	return append(l, api.Feed{}, api.Feed{Hopper: 1, Draw: 0, Knocks: 1}, api.Feed{Hopper: 1, Draw: 1, Knocks: 0}, api.Feed{Hopper: 1, Draw: 1, Knocks: api.MaxTeeth + 1})
}
