package books

import "millrind/api"

// maxLevels is how many levels a tree that is encoded may have.
const maxLevels = 4096

// pen is what a scribe goes through a book with.
type pen interface {
	number(n *int)
	flag(is *bool)
	size(n int) int // of a list that has n elements already
}

// scribe goes through all parts of a book, in the order of its encoding. With a writer it writes them, and changes nothing; with a reader it reads them into a book that is empty at first.
type scribe[P pen] struct {
	pen   P
	nodes int // of the tree, so far
}

// passEach goes through a list, element by element.
func passEach[P pen, T any](s *scribe[P], l *[]T, each func(x *T)) {
	for i := range s.pen.size(len(*l)) {
		if i == len(*l) {
			var next T
			*l = append(*l, next)
		}
		each(&(*l)[i])
	}
}

func (s *scribe[P]) pass(l ...*int) {
	for _, n := range l {
		s.pen.number(n)
	}
}

func (s *scribe[P]) list(l *[]int) { passEach(s, l, s.pen.number) }

func (s *scribe[P]) lists(l *[][]int) { passEach(s, l, s.list) }

func (s *scribe[P]) span(x *api.Span) { s.pass(&x.Lo, &x.Hi) }

func (s *scribe[P]) spans(l *[]api.Span) { passEach(s, l, s.span) }

func (s *scribe[P]) point(p *api.Point) { s.pass(&p.X, &p.Y) }

func (s *scribe[P]) book(x *api.Book) {
	s.base(&x.Base)
	s.list(&x.Rank)
	s.list(&x.Least)
	for stone := range x.Sides {
		s.side(&x.Sides[stone])
	}
	passEach(s, &x.Lines, s.line)
	s.pass(&x.Shifts)
	s.lists(&x.Work)
	s.list(&x.Cut)
	s.list(&x.Weights)
	s.list(&x.Lead)
	s.tree(&x.Tree, 1)
	trouble := int(x.Trouble)
	s.pass(&trouble)
	x.Trouble = api.Errno(trouble)
}

func (s *scribe[P]) base(b *api.Base) {
	s.face(&b.Pair.Bed)
	s.face(&b.Pair.Runner)
	passEach(s, &b.Pair.Drive, func(moves *[]api.Move) { passEach(s, moves, s.move) })
	s.pass(&b.Lift, &b.Top)
	s.list(&b.Grades)
	s.span(&b.Size)
	for stone := range b.Start {
		s.spans(&b.Start[stone])
	}
	for stone := range b.Aim {
		s.spans(&b.Aim[stone])
	}
	s.span(&b.Deep)
	s.pass(&b.Wide)
	s.list(&b.Crew.Caps)
	s.lists(&b.Crew.Reach)
	passEach(s, &b.Compass, s.point)
	passEach(s, &b.Pockets, s.pocket)
	s.pass(&b.Tol)
	passEach(s, &b.Train.Meshes, func(m *api.Mesh) { s.pass(&m.Driver, &m.Driven, &m.Play) })
	s.pass(&b.Houses)
}

func (s *scribe[P]) face(f *api.Face) {
	s.pass(&f.Eye, &f.Rings, &f.Sectors)
	s.list(&f.Kinds)
}

func (s *scribe[P]) move(m *api.Move) {
	s.pass(&m.Out, &m.Side)
	s.pen.flag(&m.Cut)
}

func (s *scribe[P]) pocket(p *api.Pocket) {
	s.point(&p.Arm)
	s.pass(&p.Most)
}

func (s *scribe[P]) side(x *api.Side) {
	s.story(&x.Story)
	passEach(s, &x.Worlds, s.world)
	passEach(s, &x.Told, s.told)
	s.cases(&x.Loops)
}

func (s *scribe[P]) story(x *api.Story) {
	s.spans(&x.Start)
	s.spans(&x.Heaps)
	passEach(s, &x.Steps, s.step)
	passEach(s, &x.Readings, s.reading)
}

func (s *scribe[P]) step(x *api.Step) {
	s.pass(&x.Kind, &x.Heap)
	s.list(&x.Times)
	s.span(&x.Deep)
}

func (s *scribe[P]) reading(x *api.Reading) {
	s.pass(&x.Slice, &x.A, &x.B)
	s.span(&x.Diff)
}

func (s *scribe[P]) world(w *api.World) {
	s.list(&w.Hard)
	s.lists(&w.Lowest)
	s.lists(&w.Highest)
}

func (s *scribe[P]) told(x *api.Told) {
	s.pass(&x.Cell)
	s.span(&x.Height)
	s.cases(&x.Low)
	s.cases(&x.High)
	s.pass(&x.LowIn, &x.HighIn)
}

func (s *scribe[P]) cases(l *[]api.Case) {
	passEach(s, l, func(x *api.Case) {
		s.list(&x.World)
		s.pen.flag(&x.Loop)
		passEach(s, &x.Path, s.bound)
	})
}

func (s *scribe[P]) bound(b *api.Bound) {
	s.pass(&b.From, &b.FromAt, &b.To, &b.ToAt, &b.Most, &b.Kind, &b.ID)
}

func (s *scribe[P]) line(x *api.Line) {
	s.pass(&x.Stone, &x.Ring, &x.State, &x.Cell, &x.Task.Wide)
	s.spans(&x.Task.Need)
	s.list(&x.Plan)
	s.list(&x.Prices.Low)
	s.list(&x.Prices.High)
}

// tree goes through a tree from the root down. What it counts ends it also where a tree is a part of itself.
func (s *scribe[P]) tree(t *api.Tree, level int) {
	s.nodes++
	need(s.nodes <= api.MaxTree && level <= maxLevels)
	s.pass(&t.Kind, &t.Pocket, &t.At)
	s.point(&t.Way)
	passEach(s, &t.Kids, func(kid *api.Tree) { s.tree(kid, level+1) })
}
