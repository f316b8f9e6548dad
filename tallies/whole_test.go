package tallies_test

import (
	"math/rand"
	"testing"

	"millrind/api"
	"millrind/history"
	"millrind/tallies"
)

// course is what happens to a world, beside the model of it.
type course struct {
	t      *testing.T
	rng    *rand.Rand
	w      *tallies.World
	m      *modelWorld
	done   map[api.Name][]string // all notes that were ever done, by name
	latest []int                 // the greatest Day that each house ever knew
	heaps  int                   // heaps that were ever done
}

func newCourse(t *testing.T, seed int) *course {
	rng := rand.New(rand.NewSource(int64(seed)))
	houses := fromTo(rng, 1, 5)
	return &course{t: t, rng: rng, w: newWorld(t, houses), m: newModelWorld(houses), done: map[api.Name][]string{}, latest: make([]int, houses)}
}

func (c *course) house() int { return fromTo(c.rng, 1, len(c.m.houses)) }

// any is an act of any kind; what a house does is chosen by a function.
func (c *course) any(choose func(house int) api.Note) api.Act {
	rng, h := c.rng, c.house()
	a := api.Act{House: h, To: c.house(), Index: rng.Intn(len(c.m.mails) + 1)}
	switch k := rng.Intn(24); {
	case k < 7:
		a.Kind, a.Note = api.ActDo, choose(h)
	case k < 8:
		a.Kind = api.ActSync
	case k < 13:
		a.Kind = api.ActAsk
	case k < 19:
		a.Kind = api.ActDeliver
	case k < 20:
		a.Kind = api.ActLose
	case k < 22:
		a.Kind = api.ActDouble
	default:
		stock, foil := c.m.houses[h-1].pending()
		a.Kind, a.Keep, a.Flip = api.ActCrash, rng.Intn(stock+1), rng.Intn(foil+1)
		if rng.Intn(3) == 0 {
			a.Keep, a.Flip = stock, foil
		}
		a.Index = someFlip(rng, a.Keep+a.Flip)
	}
	return a
}

// step lets something happen, and keeps a record of what is done.
func (c *course) step(a api.Act) {
	c.t.Helper()
	e := c.m.step(a)
	want(c.t, "Step "+text(a), c.w.Step(a), e)
	if e == api.OK && a.Kind == api.ActDo {
		added := c.m.houses[a.House-1].added
		n := added[len(added)-1]
		c.done[nameOf(n)] = append(c.done[nameOf(n)], text(n))
		if n.Kind == api.NoteHeap {
			c.heaps++
		}
	}
	for i, h := range c.m.houses {
		for _, n := range h.added {
			c.latest[i] = max(c.latest[i], n.Day)
		}
	}
}

// compare holds the world against its model.
func (c *course) compare() {
	c.t.Helper()
	for _, h := range c.m.houses {
		want(c.t, "Notes", notesOf(c.t, c.w, h.id), h.set())
	}
	mails := c.w.Mails()
	want(c.t, "messages", len(mails), len(c.m.mails))
	for i, m := range c.m.mails {
		want(c.t, "a message", mails[i], api.Mail{From: m.from, To: m.to, Body: m.body()})
	}
}

// honest asks where each note comes from, and whether any two houses know different ones of one name.
func (c *course) honest() {
	c.t.Helper()
	known, own := map[api.Name]string{}, map[int]int{}
	for id := range c.m.houses {
		for _, n := range notesOf(c.t, c.w, id+1) {
			if n.House == id+1 {
				own[id+1]++
			}
		}
	}
	for id := range c.m.houses {
		num, house := 0, 0
		for _, n := range notesOf(c.t, c.w, id+1) {
			if n.House != house {
				house, num = n.House, 0
			}
			num++
			said := text(n)
			if n.Num != num || num > own[n.House] {
				c.t.Errorf("house %d knows the note %d of house %d, behind %d; that house has %d", id+1, n.Num, n.House, num-1, own[n.House])
			}
			if first, is := known[nameOf(n)]; is && first != said {
				c.t.Errorf("two houses know of one name %s and %s", first, said)
			}
			known[nameOf(n)] = said
			was := false
			for _, x := range c.done[nameOf(n)] {
				was = was || x == said
			}
			if !was {
				c.t.Errorf("house %d knows what was not done: %s", id+1, said)
			}
		}
	}
}

// settle returns the register that all houses have behind it.
func (c *course) settle() api.Register {
	c.t.Helper()
	all := c.m.all()
	want(c.t, "Settle", c.w.Settle(), c.m.settle())
	c.compare()
	r, e := history.Fold(frame(), all)
	want(c.t, "Fold", e, api.OK)
	for id := range c.m.houses {
		got, e := history.Fold(frame(), notesOf(c.t, c.w, id+1))
		want(c.t, "Fold of a house", e, api.OK)
		want(c.t, "the register of a house", got, r)
		want(c.t, "nothing is pending", c.w.Step(losing(id+1)), api.OK)
		want(c.t, "what is left behind a crash", notesOf(c.t, c.w, id+1), all)
	}
	return r
}

// P9.1, P9.4, P9.5, P9.6, P0.7: whatever houses do, lose, send and forget, each knows what the chapter says; and behind settling all have one register.
func TestAnyWorlds(t *testing.T) {
	notes, conflicts := 0, 0
	for seed := range 300 {
		c := newCourse(t, seed)
		for range 150 {
			if c.rng.Intn(80) == 0 {
				c.settle()
			}
			c.step(c.any(func(int) api.Note { return someNote(c.rng, fromTo(c.rng, 1, 6), 5) }))
			c.compare()
		}
		c.honest()
		r := c.settle()
		c.honest()
		notes += len(r.Heaps) + len(r.Events)
		conflicts += len(r.Conflicts)
		if t.Failed() {
			t.Fatalf("the world is %d", seed)
		}
	}
	if notes < 3000 || conflicts < 100 {
		t.Errorf("%d notes, %d conflicts", notes, conflicts)
	}
}

// plain chooses what a house does without a correction or a withdrawal: no more than 8 heaps in all, and nothing ahead of a day that the house knew.
func (c *course) plain(house int) api.Note {
	kind := fromTo(c.rng, 1, 4)
	if c.rng.Intn(2) == 0 {
		kind = api.NotePass
	}
	if kind == api.NoteHeap && c.heaps == 8 {
		kind = api.NoteReading
	}
	n := someNote(c.rng, kind, len(c.m.houses))
	if l := c.m.houses[house-1].added; kind == api.NotePass && len(l) > 0 {
		n.Ref = nameOf(l[c.rng.Intn(len(l))])
	}
	n.Day = c.latest[house-1] + c.rng.Intn(2)
	return n
}

// P9.7: houses that only do heaps, passes, readings and strokes, with days that they do not go back behind, have no conflicts.
func TestNoConflicts(t *testing.T) {
	passes, heaps := 0, 0
	for seed := range 400 {
		c := newCourse(t, seed)
		for range 120 {
			c.step(c.any(c.plain))
		}
		r := c.settle()
		want(t, "conflicts", r.Conflicts, []api.Name{})
		heaps += len(r.Heaps)
		for _, x := range r.Events {
			if x.Note.Kind == api.NotePass {
				passes++
			}
		}
		if t.Failed() {
			t.Fatalf("the world is %d", seed)
		}
	}
	if passes < 1000 || heaps < 1000 {
		t.Errorf("%d passes of %d heaps", passes, heaps)
	}
}

// P9.7: ahead of Settle a house may know a pass, but not its heap; what it does then is not asked for that.
func TestPassWithoutHeap(t *testing.T) {
	w := newWorld(t, 4)
	for range 16 {
		steps(t, w, doing(1, reading(1)))
	}
	steps(t, w, doing(3, heap(1)), asking(2, 3), delivering(0), delivering(0), doing(2, pass(1, 3, 1)))
	steps(t, w, asking(2, 1), delivering(0), delivering(0), asking(4, 2), delivering(0), delivering(0))
	want(t, "the first gift", len(notesOf(t, w, 4)), 16)
	for range 15 {
		steps(t, w, doing(2, reading(2)))
	}
	steps(t, w, asking(4, 2), delivering(0), delivering(0))
	r, e := history.Fold(frame(), notesOf(t, w, 4))
	want(t, "Fold", e, api.OK)
	want(t, "a pass without its heap", r.Conflicts, []api.Name{name(2, 1)})
	steps(t, w, doing(4, heap(3)), doing(4, pass(3, 4, 1)))
	step(t, w, "a pass of a heap that is not known", doing(4, pass(3, 3, 1)), api.ErrPlace)
	want(t, "Settle", w.Settle(), api.OK)
	r, e = history.Fold(frame(), notesOf(t, w, 4))
	want(t, "Fold", e, api.OK)
	want(t, "no conflicts", r.Conflicts, []api.Name{})
	steps(t, w, doing(4, pass(3, 3, 1)))
}
