package history

import (
	"iter"

	"millrind/api"
)

// Effective returns what notes say as corrected.
func Effective(f api.Frame, l []api.Note) ([]api.Event, api.Errno) {
	s, e := openSet(f, l)
	if e != api.OK {
		return nil, e
	}
	var events []api.Event
	for x := range s.events() {
		events = append(events, x)
	}
	return events, api.OK
}

// events yields all events, in the order in which they take effect.
func (s set) events() iter.Seq[api.Event] {
	return func(yield func(api.Event) bool) {
		for _, n := range s.counting().sorted(byEffect()) {
			if !yield(api.Event{Ref: nameOf(n), Note: n}) {
				return
			}
		}
	}
}

// counting returns what counts of the notes that tell what was done.
func (s set) counting() set {
	judges := s.judges()
	counts := set{}
	for name, n := range s {
		if isChange(n) {
			continue
		}
		judge, is := judges[name]
		switch {
		case !is:
			counts[name] = n
		case judge.Kind == api.NoteCorrect:
			counts[name] = corrected(n, judge)
		}
	}
	return counts
}

// judges returns the judge of each note that has one.
func (s set) judges() set {
	judges, later := set{}, byClock()
	for _, n := range s {
		if !s.mayJudge(n) {
			continue
		}
		if last, is := judges[n.Ref]; !is || later(n, last) > 0 {
			judges[n.Ref] = n
		}
	}
	return judges
}

// mayJudge reports whether a note is the judge of another one if none comes behind it.
func (s set) mayJudge(n api.Note) bool {
	of, is := s[n.Ref]
	if !is || !isChange(n) || isChange(of) {
		return false
	}
	return n.Fix != api.NotePass || of.Kind == api.NotePass
}

// corrected returns what counts of a note if a correction is its judge.
func corrected(n, judge api.Note) api.Note {
	x := api.Note{House: n.House, Num: n.Num, Clock: n.Clock, Day: judge.Day, Kind: judge.Fix}
	if judge.Fix == api.NotePass {
		x.Ref = n.Ref
	}
	return saying(x, contentOf(judge))
}
