// Package numbers is how layers 9 and 10 write numbers as bytes: seven bits in each, the lowest ones first, with 128 added to all but the last (doc/09-tallies.md).
package numbers

// Numbers that have an encoding.
const (
	Least = -1 << 62
	Most  = 1<<62 - 1
)

// maxBits is how many bits the encoding of a number has at most.
const maxBits = 63

// Fits reports whether a number has an encoding.
func Fits(n int) bool { return Least <= n && n <= Most }

// Append adds the encoding of a number that fits to bytes.
func Append(b []byte, n int) []byte {
	u := uint64(n) << 1
	if n < 0 {
		u = ^u // -2 * n - 1
	}
	for ; u >= 128; u >>= 7 {
		b = append(b, byte(u)|128)
	}
	return append(b, byte(u))
}

// Take returns the number with whose encoding bytes begin, and the bytes behind it; false, if they begin with none.
func Take(b []byte) (n int, rest []byte, is bool) {
	u := uint64(0)
	for i, x := range b {
		if 7*i >= maxBits {
			break
		}
		u |= uint64(x&127) << (7 * i)
		if x < 128 {
			if x == 0 && i > 0 { // more bytes than are needed
				break
			}
			return unsigned(u), b[i+1:], true
		}
	}
	return 0, nil, false
}

// unsigned returns the number for which another one, that is 0 or more, is written.
func unsigned(u uint64) int {
	n := int(u >> 1)
	if u%2 == 1 {
		return -n - 1
	}
	return n
}
