package word_test

import (
	"math"
	"math/big"
	"slices"
	"strings"
	"testing"

	"engram/api"
	"engram/word"
)

const (
	least    = math.MinInt64
	greatest = math.MaxInt64
)

var numbers = []int64{
	least, least + 1, least + 2, -1 << 62, -1<<62 - 1, -1 << 33, -1<<32 - 1, -1 << 32, -1 << 31, -65536, -257, -256, -255, -128, -65, -64, -63, -10, -7, -3, -2, -1,
	0, 1, 2, 3, 7, 10, 31, 32, 33, 62, 63, 64, 65, 127, 128, 129, 255, 256, 257, 65535, 1<<31 - 1, 1 << 31, 1<<32 - 1, 1 << 32, 3037000500, 1 << 62, greatest - 1, greatest,
	0x0123456789abcdef, -0x0123456789abcdef, 0x5555555555555555,
}

func expectDo(t *testing.T, sign rune, a, b, want int64, trap int) {
	t.Helper()
	if n, got := word.Do(sign, a, b); n != want || got != trap {
		t.Errorf("Do(%q, %d, %d) is %d, %d, not %d, %d", sign, a, b, n, got, want, trap)
	}
}

// P10.1: Do

func TestSums(t *testing.T) {
	expectDo(t, '+', 1, 2, 3, api.Done)
	expectDo(t, '+', greatest, 1, least, api.Done)
	expectDo(t, '+', least, -1, greatest, api.Done)
	expectDo(t, '+', least, least, 0, api.Done)
	expectDo(t, '-', 1, 2, -1, api.Done)
	expectDo(t, '-', least, 1, greatest, api.Done)
	expectDo(t, '-', 0, least, least, api.Done)
	expectDo(t, '-', greatest, -1, least, api.Done)
	expectDo(t, '*', -3, 5, -15, api.Done)
	expectDo(t, '*', greatest, 2, -2, api.Done)
	expectDo(t, '*', least, -1, least, api.Done)
	expectDo(t, '*', 1<<32, 1<<32, 0, api.Done)
	expectDo(t, '*', 3037000500, 3037000500, -9223372036709301616, api.Done)
}

func TestParts(t *testing.T) {
	for _, c := range []struct{ a, b, by, rest int64 }{
		{7, 2, 3, 1}, {-7, 2, -3, -1}, {7, -2, -3, 1}, {-7, -2, 3, -1}, {6, 3, 2, 0}, {-6, 3, -2, 0}, {1, 2, 0, 1}, {-1, 2, 0, -1}, {0, 5, 0, 0}, {0, -1, 0, 0}, {0, least, 0, 0},
		{5, 1, 5, 0}, {5, -1, -5, 0}, {greatest, -1, -greatest, 0}, {least, 1, least, 0}, {least, 2, -1 << 62, 0}, {least, -2, 1 << 62, 0}, {least, least, 1, 0}, {least + 1, -1, greatest, 0},
		{greatest, least, 0, greatest}, {least, greatest, -1, -1}, {-1, -1, 1, 0}, {-1, least, 0, -1}, {greatest, greatest, 1, 0},
	} {
		expectDo(t, '/', c.a, c.b, c.by, api.Done)
		expectDo(t, '%', c.a, c.b, c.rest, api.Done)
	}
	expectDo(t, '/', least, -1, 0, api.Over)
	expectDo(t, '%', least, -1, 0, api.Done)
	for _, a := range numbers {
		expectDo(t, '/', a, 0, 0, api.DivZero)
		expectDo(t, '%', a, 0, 0, api.DivZero)
	}
}

func TestBits(t *testing.T) {
	for _, c := range []struct{ a, b, and, or, xor int64 }{
		{12, 10, 8, 14, 6}, {-1, 5, 5, -1, -6}, {0, 7, 0, 7, 7}, {least, greatest, 0, -1, -1}, {-1, -1, -1, -1, 0}, {least, -1, least, -1, greatest}, {5, 5, 5, 5, 0}, {-2, 1, 0, -1, -1},
	} {
		expectDo(t, '&', c.a, c.b, c.and, api.Done)
		expectDo(t, '|', c.a, c.b, c.or, api.Done)
		expectDo(t, '^', c.a, c.b, c.xor, api.Done)
	}
}

func TestOrder(t *testing.T) {
	sorted := slices.Sorted(slices.Values(numbers))
	for i, a := range sorted {
		for j, b := range sorted {
			less, same := int64(0), int64(0)
			if i < j {
				less = 1
			}
			if i == j {
				same = 1
			}
			expectDo(t, '<', a, b, less, api.Done)
			expectDo(t, '=', a, b, same, api.Done)
		}
	}
}

func TestShifts(t *testing.T) {
	for _, c := range []struct{ a, b, up, down int64 }{
		{1, 0, 1, 1}, {1, 1, 2, 0}, {3, 62, -1 << 62, 0}, {1, 63, least, 0}, {1, 64, 1, 1}, {1, 65, 2, 0}, {1, -1, least, 0}, {1, -64, 1, 1}, {1, -63, 2, 0}, {1, least, 1, 1}, {1, greatest, least, 0},
		{-1, 9, -512, -1}, {-1, 63, least, -1}, {-1, 64, -1, -1}, {-8, 1, -16, -4}, {-7, 1, -14, -4}, {least, 1, 0, -1 << 62}, {least, 63, 0, -1}, {greatest, 62, -1 << 62, 1}, {greatest, 63, least, 0},
		{greatest, 1, -2, greatest / 2}, {5, 127, least, 0}, {5, 128, 5, 5}, {5, 1 << 32, 5, 5}, {5, 1<<32 + 2, 20, 1}, {0, 7, 0, 0}, {0x1234, 8, 0x123400, 0x12},
	} {
		expectDo(t, '«', c.a, c.b, c.up, api.Done)
		expectDo(t, '»', c.a, c.b, c.down, api.Done)
	}
	// Of b no more than its lowest six bits are asked.
	for _, a := range numbers {
		for _, b := range numbers {
			low := b - b>>6*64
			up, _ := word.Do('«', a, low)
			down, _ := word.Do('»', a, low)
			expectDo(t, '«', a, b, up, api.Done)
			expectDo(t, '»', a, b, down, api.Done)
		}
	}
}

func TestNot(t *testing.T) {
	for _, b := range numbers {
		for _, a := range numbers {
			want := int64(0)
			if a == 0 {
				want = 1
			}
			expectDo(t, '!', a, b, want, api.Done)
		}
	}
}

// whole is the answer of numbers without an end, brought into 64 bits.
func whole(sign rune, a, b *big.Int) *big.Int {
	n := new(big.Int)
	switch sign {
	case '+':
		n.Add(a, b)
	case '-':
		n.Sub(a, b)
	case '*':
		n.Mul(a, b)
	case '/':
		n.Quo(a, b)
	case '%':
		n.Rem(a, b)
	case '&':
		n.And(a, b)
	case '|':
		n.Or(a, b)
	case '^':
		n.Xor(a, b)
	case '«':
		n.Lsh(a, uint(new(big.Int).And(b, big.NewInt(63)).Int64()))
	case '»':
		n.Rsh(a, uint(new(big.Int).And(b, big.NewInt(63)).Int64()))
	}
	n.And(n, new(big.Int).SetUint64(math.MaxUint64))
	if n.Bit(63) == 1 {
		n.Sub(n, new(big.Int).Lsh(big.NewInt(1), 64))
	}
	return n
}

func TestNumbersGoRound(t *testing.T) {
	for _, sign := range "+-*/%&|^«»" {
		for _, a := range numbers {
			for _, b := range numbers {
				if (sign == '/' || sign == '%') && (b == 0 || a == least && b == -1) {
					continue
				}
				expectDo(t, sign, a, b, whole(sign, big.NewInt(a), big.NewInt(b)).Int64(), api.Done)
			}
		}
	}
}

func TestOtherSigns(t *testing.T) {
	for r := rune(-300); r < 70000; r++ {
		if !strings.ContainsRune("+-*/%&|^<=«»!", r) {
			expectDo(t, r, 1, 1, 0, api.Halt)
		}
	}
	for _, r := range []rune{'x', '>', '0', '~', '¡', '@', 0, math.MinInt32, math.MaxInt32, 1<<16 + '+', 1<<24 + '!'} {
		for _, n := range numbers {
			expectDo(t, r, n, 0, 0, api.Halt)
			expectDo(t, r, 0, n, 0, api.Halt)
		}
	}
}

// P10.1: Byte

func TestByte(t *testing.T) {
	for _, c := range [][2]int64{
		{0, 0}, {1, 1}, {127, 127}, {128, 128}, {255, 255}, {256, 0}, {257, 1}, {-1, 255}, {-128, 128}, {-255, 1}, {-256, 0}, {-257, 255}, {least, 0}, {least + 3, 3}, {greatest, 255},
		{0x0123456789abcdef, 0xef}, {0x7fffffffffffff00, 0}, {1 << 40, 0},
	} {
		if got := word.Byte(c[0]); got != c[1] {
			t.Errorf("Byte(%d) is %d, not %d", c[0], got, c[1])
		}
	}
	for n := int64(-1000); n < 1000; n++ {
		if got := word.Byte(n); got != (n+2560)%256 {
			t.Errorf("Byte(%d) is %d", n, got)
		}
	}
}
