package tallies_test

import (
	"bytes"
	"math"
	"math/rand"
	"slices"
	"testing"

	"millrind/api"
	"millrind/tallies"
)

func sizes(s *tallies.Stick) []int {
	a, b, c, d := s.Sizes()
	return []int{a, b, c, d}
}

// P9.1, T5 to T9: writing, syncing, and what both journals hold and tell.
func TestSticks(t *testing.T) {
	var zero tallies.Stick
	for what, s := range map[string]*tallies.Stick{"a new stick": tallies.NewStick(), "the zero stick": &zero} {
		want(t, what, sizes(s), []int{0, 0, 0, 0})
		want(t, what, s.Tallies(), [][]byte{})
		want(t, what+": Write", s.Write([]byte{7}), api.OK)
		want(t, what+": pending", sizes(s), []int{0, 3, 0, 4})
		want(t, what+": pending", s.Tallies(), [][]byte{{7}})
		s.Sync()
		want(t, what+": synced", sizes(s), []int{3, 0, 4, 0})
		want(t, what+": Write", s.Write(nil), api.OK)
		want(t, what+": Write", s.Write([]byte{1, 2}), api.OK)
		want(t, what+": more", sizes(s), []int{3, 6, 4, 8})
		want(t, what+": more", s.Tallies(), [][]byte{{7}, {}, {1, 2}})
		want(t, what+": too long", s.Write(make([]byte, 8193)), api.ErrLimit)
		want(t, what+": behind an error", sizes(s), []int{3, 6, 4, 8})
		want(t, what+": Write", s.Write(make([]byte, 8192)), api.OK)
		want(t, what+": a long one", sizes(s), []int{3, 8200, 4, 12})
		s.Sync()
		s.Sync()
		want(t, what+": all", sizes(s), []int{8203, 0, 16, 0})
	}
}

// P9.1, T6: a journal has at most 2^24 bytes, durable or pending.
func TestFullStocks(t *testing.T) {
	s, b := tallies.NewStick(), make([]byte, 8192)
	for i := range 2047 {
		want(t, "Write", s.Write(b), api.OK)
		if i == 1000 {
			s.Sync()
		}
	}
	want(t, "a byte too many", s.Write(b[:4097]), api.ErrLimit)
	want(t, "many bytes too many", s.Write(b), api.ErrLimit)
	want(t, "behind errors", sizes(s), []int{1001 * 8194, 1046 * 8194, 1001 * 4, 1046 * 4})
	want(t, "the last bytes", s.Write(b[:4096]), api.OK)
	want(t, "a full journal", sizes(s), []int{1001 * 8194, 1<<24 - 1001*8194, 1001 * 4, 1047 * 4})
	want(t, "nothing more", s.Write(nil), api.ErrLimit)
	want(t, "Crash", s.Crash(1<<24-1001*8194-1, 1047*4, -1), api.OK)
	want(t, "a byte too few", s.Write(nil), api.ErrLimit)
	want(t, "all but the last one", len(s.Tallies()), 2047)
}

// P9.1, T6: the foil journal is full first, if the lists are short.
func TestFullFoils(t *testing.T) {
	s := tallies.NewStick()
	for range 1<<22 - 1 {
		if e := s.Write(nil); e != api.OK {
			t.Fatalf("Write: error %d", e)
		}
	}
	want(t, "Write", s.Write([]byte{5}), api.OK)
	want(t, "a full journal", sizes(s), []int{0, 1<<23 + 1, 0, 1 << 24})
	want(t, "nothing more", s.Write(nil), api.ErrLimit)
	s.Sync()
	want(t, "nothing more behind Sync", s.Write(nil), api.ErrLimit)
	want(t, "a full journal", sizes(s), []int{1<<23 + 1, 0, 1 << 24, 0})
}

// P9.1, T10: the errors of a crash change nothing; its examples.
func TestStickCrashes(t *testing.T) {
	s := tallies.NewStick()
	want(t, "Crash of nothing", s.Crash(0, 0, -1), api.OK)
	want(t, "Crash of nothing with a flip", s.Crash(0, 0, 0), api.ErrArg)
	s.Write([]byte{7})
	s.Sync()
	s.Write([]byte{1, 2})
	for _, x := range [][3]int{
		{5, 0, -1}, {0, 5, -1}, {-1, 0, -1}, {0, -1, -1}, {0, 0, 0}, {0, 0, -2}, {1, 1, 16}, {1, 1, -2}, {4, 4, 64}, {-1, 1, 0}, {1, -1, 0},
		{math.MaxInt, 0, -1}, {0, math.MinInt, -1}, {math.MaxInt, math.MaxInt, math.MaxInt}, {1, 1, math.MaxInt}, {1, 1, math.MinInt},
	} {
		want(t, "Crash "+text(x), s.Crash(x[0], x[1], x[2]), api.ErrArg)
		want(t, "behind an error", sizes(s), []int{3, 4, 4, 4})
		want(t, "behind an error", s.Tallies(), [][]byte{{7}, {1, 2}})
	}
	want(t, "Crash", s.Crash(4, 4, -1), api.OK)
	want(t, "all is durable", sizes(s), []int{7, 0, 8, 0})
	want(t, "all is durable", s.Tallies(), [][]byte{{7}, {1, 2}})
	s.Write([]byte{3})
	want(t, "the last bit", s.Crash(3, 4, 55), api.OK)
	want(t, "the last bit", s.Tallies(), [][]byte{{7}, {1, 2}})
	want(t, "what is left is durable", sizes(s), []int{10, 0, 12, 0})
	s.Write([]byte{4})
	want(t, "behind a wrong half", s.Tallies(), [][]byte{{7}, {1, 2}})
	torn := tallies.NewStick()
	torn.Write([]byte{7})
	want(t, "a torn foil", torn.Crash(3, 2, -1), api.OK)
	want(t, "a torn foil", torn.Tallies(), [][]byte{})
	want(t, "a torn foil", sizes(torn), []int{3, 0, 2, 0})
}

// P9.1, T10: the bit that is inverted is just the one that was named: a half that was made so is joined to a half that fits it.
func TestWhichBit(t *testing.T) {
	for bit := range 8 {
		wrong := byte(64 ^ 1<<bit)
		s := tallies.NewStick()
		s.Write([]byte{64})
		want(t, "a bit of the stock", s.Crash(3, 0, 16+bit), api.OK)
		s.Write([]byte{wrong})
		want(t, "the stock", s.Tallies(), [][]byte{{wrong}})
		check := byte(65 ^ 1<<bit)
		s = tallies.NewStick()
		s.Write([]byte{64})
		want(t, "a bit of the foil", s.Crash(0, 4, 16+bit), api.OK)
		s.Write([]byte{check - 1})
		want(t, "the foil", s.Tallies(), [][]byte{{check - 1}})
	}
}

// P9.1, T10: the bytes that are left of the stock come first, then those of the foil: what is torn is made whole by later halves.
func TestFlipOrder(t *testing.T) {
	for bit := range 8 {
		s := tallies.NewStick()
		s.Write([]byte{1 << bit})
		want(t, "a bit of the stock, with a torn foil", s.Crash(3, 2, 16+bit), api.OK)
		s.Write([]byte{9})
		want(t, "the stock", s.Tallies(), [][]byte{{0}})
		if bit == 0 {
			continue // no list of one byte has the check 0
		}
		s = tallies.NewStick()
		s.Write([]byte{1 << bit})
		want(t, "a bit of the foil, with a torn stock", s.Crash(1, 4, 24+bit), api.OK)
		s.Write(nil)
		want(t, "the foil", s.Tallies(), [][]byte{{0}})
	}
}

// modelStick is the bytes of both journals, and how many of them are durable.
type modelStick struct {
	journals [2][]byte
	durable  [2]int
}

func (m *modelStick) pending(i int) int { return len(m.journals[i]) - m.durable[i] }

func (m *modelStick) write(b []byte) {
	stock, foil := modelHalves(b)
	m.journals[0] = append(m.journals[0], stock...)
	m.journals[1] = append(m.journals[1], foil...)
}

func (m *modelStick) sync() { m.durable = [2]int{len(m.journals[0]), len(m.journals[1])} }

// crash lays what is left of both journals one behind the other.
func (m *modelStick) crash(stock, foil, flip int) api.Errno {
	if stock < 0 || stock > m.pending(0) || foil < 0 || foil > m.pending(1) || flip < -1 || flip >= 8*(stock+foil) {
		return api.ErrArg
	}
	left := slices.Concat(m.journals[0][m.durable[0]:m.durable[0]+stock], m.journals[1][m.durable[1]:m.durable[1]+foil])
	if flip >= 0 {
		left[flip/8] ^= []byte{1, 2, 4, 8, 16, 32, 64, 128}[flip%8]
	}
	m.journals[0] = append(m.journals[0][:m.durable[0]], left[:stock]...)
	m.journals[1] = append(m.journals[1][:m.durable[1]], left[stock:]...)
	m.sync()
	return api.OK
}

// P9.1, T5 to T10: many sticks, with whatever may happen to them.
func TestAnySticks(t *testing.T) {
	crashes, whole := 0, 0
	for seed := range 2000 {
		rng := rand.New(rand.NewSource(int64(seed)))
		s, m := tallies.NewStick(), modelStick{}
		for range 30 {
			switch rng.Intn(6) {
			case 0:
				s.Sync()
				m.sync()
			case 1:
				stock, foil := fromTo(rng, -1, m.pending(0)+1), fromTo(rng, -1, m.pending(1)+1)
				if rng.Intn(2) == 0 {
					stock, foil = m.pending(0), m.pending(1)
				}
				flip := someFlip(rng, stock+foil)
				e := m.crash(stock, foil, flip)
				want(t, "Crash", s.Crash(stock, foil, flip), e)
				if e == api.OK {
					crashes++
				}
			default:
				b := make([]byte, rng.Intn(5))
				rng.Read(b)
				want(t, "Write", s.Write(b), api.OK)
				m.write(b)
			}
			want(t, "Sizes", sizes(s), []int{m.durable[0], m.pending(0), m.durable[1], m.pending(1)})
			l, stock, _ := modelJoin(m.journals[0], m.journals[1])
			if got := s.Tallies(); !slices.EqualFunc(got, l, bytes.Equal) {
				t.Errorf("Tallies: got %v, want %v", got, l)
			}
			if stock == len(m.journals[0]) {
				whole++
			}
		}
		if t.Failed() {
			t.Fatalf("the stick is %d", seed)
		}
	}
	if crashes < 3000 || whole < 10000 {
		t.Errorf("%d crashes, %d whole sticks", crashes, whole)
	}
}

// P9.1, Errors: methods of a nil stick.
func TestNoStick(t *testing.T) {
	var s *tallies.Stick
	s.Sync()
	want(t, "Write", s.Write(nil), api.ErrArg)
	want(t, "Write of too much", s.Write(make([]byte, 8193)), api.ErrArg)
	want(t, "Crash", s.Crash(0, 0, -1), api.ErrArg)
	want(t, "Tallies", s.Tallies(), [][]byte{})
	want(t, "Sizes", sizes(s), []int{0, 0, 0, 0})
}

// R7: a stick keeps no bytes of others, and gives none of its own away.
func TestSticksAreAlone(t *testing.T) {
	s, other, b := tallies.NewStick(), tallies.NewStick(), []byte{1, 2}
	s.Write(b)
	b[0] = 9
	other.Write(b)
	want(t, "the stick", s.Tallies(), [][]byte{{1, 2}})
	for _, x := range s.Tallies() {
		_ = append(x[:0], 5, 5, 5)
	}
	want(t, "the stick", s.Tallies(), [][]byte{{1, 2}})
	want(t, "the other one", other.Tallies(), [][]byte{{9, 2}})
}
