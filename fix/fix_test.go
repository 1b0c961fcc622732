package fix_test

import (
	"math"
	"math/big"
	"testing"

	"usher/api"
	"usher/fix"
)

const most = math.MaxUint64

// edges are the numbers at which a sum, a product or a quotient turns over.
func edges() []uint64 {
	return []uint64{
		0, 1, 2, 3, 5, 6, 7, 9,
		1<<31 - 1, 1 << 31, 1<<31 + 1,
		1<<32 - 1, 1 << 32, 1<<32 + 1,
		1<<61 - 1, 1 << 61, 1<<61 + 1,
		api.Cap - 2, api.Cap - 1, api.Cap, api.Cap + 1,
		1<<63 - 1, 1 << 63, 1<<63 + 1,
		most - 2, most - 1, most,
	}
}

// mixed are n numbers of all sizes, the same ones each time.
func mixed(n int) []uint64 {
	list := make([]uint64, n)
	x := uint64(88172645463325252)
	for i := range list {
		x ^= x << 13
		x ^= x >> 7
		x ^= x << 17
		list[i] = x >> (i % 64)
	}
	return list
}

func whole(a uint64) *big.Int { return new(big.Int).SetUint64(a) }

// counted is what a number counts as.
func counted(a uint64) *big.Int {
	if a > 1<<62 {
		a = 1 << 62
	}
	return whole(a)
}

// stopped is a number of any size, stopped at 0 and at the cap.
func stopped(x *big.Int) uint64 {
	if x.Sign() < 0 {
		return 0
	}
	if x.Cmp(whole(1<<62)) > 0 {
		return 1 << 62
	}
	return x.Uint64()
}

func wantAdd(a, b uint64) uint64 { return stopped(new(big.Int).Add(counted(a), counted(b))) }

func wantSub(a, b uint64) uint64 { return stopped(new(big.Int).Sub(counted(a), counted(b))) }

func wantMul(a, b uint64) uint64 { return stopped(new(big.Int).Mul(counted(a), counted(b))) }

func wantMulDiv(a, b, c uint64) uint64 {
	if c == 0 {
		return 1 << 62
	}
	product := new(big.Int).Mul(counted(a), counted(b))
	return stopped(product.Quo(product, counted(c)))
}

func wantCmp(a, b, c, d uint64) int {
	if b == 0 && d == 0 {
		return 0
	}
	if b == 0 {
		return 1
	}
	if d == 0 {
		return -1
	}
	left := new(big.Int).Mul(whole(a), whole(d))
	return left.Cmp(new(big.Int).Mul(whole(c), whole(b)))
}

func checkPair(t *testing.T, a, b uint64) {
	t.Helper()
	if got, want := fix.Add(a, b), wantAdd(a, b); got != want {
		t.Fatalf("Add(%d, %d) = %d, not %d", a, b, got, want)
	}
	if got, want := fix.Sub(a, b), wantSub(a, b); got != want {
		t.Fatalf("Sub(%d, %d) = %d, not %d", a, b, got, want)
	}
	if got, want := fix.Mul(a, b), wantMul(a, b); got != want {
		t.Fatalf("Mul(%d, %d) = %d, not %d", a, b, got, want)
	}
}

func checkMulDiv(t *testing.T, a, b, c uint64) {
	t.Helper()
	if got, want := fix.MulDiv(a, b, c), wantMulDiv(a, b, c); got != want {
		t.Fatalf("MulDiv(%d, %d, %d) = %d, not %d", a, b, c, got, want)
	}
}

func checkCmp(t *testing.T, a, b, c, d uint64) {
	t.Helper()
	if got, want := fix.Cmp(a, b, c, d), wantCmp(a, b, c, d); got != want {
		t.Fatalf("Cmp(%d, %d, %d, %d) = %d, not %d", a, b, c, d, got, want)
	}
}

func TestChapterExamples(t *testing.T) {
	if got := fix.Add(1<<62-1, 5); got != 1<<62 {
		t.Errorf("Add(2^62 - 1, 5) = %d", got)
	}
	if got := fix.Sub(3, 5); got != 0 {
		t.Errorf("Sub(3, 5) = %d", got)
	}
	if got := fix.MulDiv(1<<62, 6, 9); got != 3074457345618258602 {
		t.Errorf("MulDiv(2^62, 6, 9) = %d", got)
	}
	if got := fix.MulDiv(1, 1, 0); got != 1<<62 {
		t.Errorf("MulDiv(1, 1, 0) = %d", got)
	}
	if got := fix.Cmp(1, 3, 2, 6); got != 0 {
		t.Errorf("Cmp(1, 3, 2, 6) = %d", got)
	}
	if got := fix.Cmp(1, 0, 5, 1); got != 1 {
		t.Errorf("Cmp(1, 0, 5, 1) = %d", got)
	}
	if got := fix.Cmp(0, 0, 7, 0); got != 0 {
		t.Errorf("Cmp(0, 0, 7, 0) = %d", got)
	}
}

// P1.1
func TestAddStopsAtCap(t *testing.T) {
	rows := []struct{ a, b, want uint64 }{
		{0, 0, 0},
		{2, 3, 5},
		{api.Cap - 1, 0, api.Cap - 1},
		{api.Cap - 2, 1, api.Cap - 1},
		{api.Cap - 1, 1, api.Cap},
		{api.Cap - 1, 2, api.Cap},
		{1 << 61, 1<<61 - 1, api.Cap - 1},
		{1 << 61, 1 << 61, api.Cap},
		{1 << 61, 1<<61 + 1, api.Cap},
		{api.Cap, 0, api.Cap},
		{api.Cap + 1, 0, api.Cap},
		{0, most, api.Cap},
		{1, most, api.Cap},
		{1 << 63, 1 << 63, api.Cap},
		{most, most, api.Cap},
	}
	for _, r := range rows {
		if got := fix.Add(r.a, r.b); got != r.want {
			t.Errorf("Add(%d, %d) = %d, not %d", r.a, r.b, got, r.want)
		}
	}
}

// P1.1
func TestSubStopsAtZero(t *testing.T) {
	rows := []struct{ a, b, want uint64 }{
		{0, 0, 0},
		{5, 3, 2},
		{3, 5, 0},
		{0, 1, 0},
		{0, most, 0},
		{7, 7, 0},
		{7, 6, 1},
		{6, 7, 0},
		{api.Cap, 1, api.Cap - 1},
		{api.Cap + 1, 1, api.Cap - 1},
		{most, 0, api.Cap},
		{most, api.Cap - 1, 1},
		{most, api.Cap, 0},
		{most, api.Cap + 1, 0},
		{api.Cap, most, 0},
		{api.Cap - 1, most, 0},
	}
	for _, r := range rows {
		if got := fix.Sub(r.a, r.b); got != r.want {
			t.Errorf("Sub(%d, %d) = %d, not %d", r.a, r.b, got, r.want)
		}
	}
}

// P1.2
func TestMulStopsAtCap(t *testing.T) {
	rows := []struct{ a, b, want uint64 }{
		{0, 0, 0},
		{6, 7, 42},
		{0, most, 0},
		{1, api.Cap - 1, api.Cap - 1},
		{1, api.Cap, api.Cap},
		{1, api.Cap + 1, api.Cap},
		{1, most, api.Cap},
		{3, 1537228672809129301, api.Cap - 1},
		{3, 1537228672809129302, api.Cap},
		{1 << 31, 1 << 31, api.Cap},
		{1 << 31, 1<<31 - 1, 1<<62 - 1<<31},
		{1<<31 - 1, 1<<31 + 1, api.Cap - 1},
		{1<<31 + 1, 1 << 31, api.Cap},
		{1 << 32, 1 << 32, api.Cap},
		{1 << 40, 1 << 40, api.Cap},
		{most, most, api.Cap},
	}
	for _, r := range rows {
		if got := fix.Mul(r.a, r.b); got != r.want {
			t.Errorf("Mul(%d, %d) = %d, not %d", r.a, r.b, got, r.want)
		}
	}
}

// P1.2
func TestMulDivOfProductsOfAnySize(t *testing.T) {
	rows := []struct{ a, b, c, want uint64 }{
		{6, 7, 2, 21},
		{7, 7, 10, 4},
		{9, 1, 10, 0},
		{0, 5, 3, 0},
		{0, 0, 0, api.Cap},
		{0, most, 0, api.Cap},
		{most, most, 0, api.Cap},
		{api.Cap, api.Cap, api.Cap, api.Cap},
		{api.Cap, api.Cap, api.Cap - 1, api.Cap},
		{api.Cap, api.Cap - 1, api.Cap, api.Cap - 1},
		{api.Cap - 1, api.Cap - 1, api.Cap, api.Cap - 2},
		{api.Cap, 3, 3, api.Cap},
		{api.Cap - 1, 3, 3, api.Cap - 1},
		{api.Cap, api.Cap, 1 << 60, api.Cap},
		{api.Cap, api.Cap, 1<<60 + 1, api.Cap},
		{api.Cap, api.Cap, 1, api.Cap},
		{api.Cap, 1, most, 1},
		{api.Cap - 1, 1, most, 0},
		{most, 1, api.Cap, 1},
		{most, most, most, api.Cap},
		{most, 5, most, 5},
	}
	for _, r := range rows {
		if got := fix.MulDiv(r.a, r.b, r.c); got != r.want {
			t.Errorf("MulDiv(%d, %d, %d) = %d, not %d", r.a, r.b, r.c, got, r.want)
		}
	}
}

// P1.1, P1.2
func TestPairsAgainstWholeNumbers(t *testing.T) {
	list := append(edges(), mixed(256)...)
	for _, a := range list {
		for _, b := range list {
			checkPair(t, a, b)
		}
	}
}

// P1.1, P1.2: the greatest b that stays below the cap beside a, and those next to it.
func TestPairsAroundTheCap(t *testing.T) {
	for _, a := range append(edges(), mixed(256)...) {
		checkPair(t, a, api.Cap-a-1)
		checkPair(t, a, api.Cap-a)
		checkPair(t, a, api.Cap-a+1)
		if a > 0 {
			checkPair(t, a, api.Cap/a-1)
			checkPair(t, a, api.Cap/a)
			checkPair(t, a, api.Cap/a+1)
		}
	}
}

// P1.2
func TestMulDivAgainstWholeNumbers(t *testing.T) {
	list := append(edges(), mixed(64)...)
	for _, a := range list {
		for _, b := range list {
			for _, c := range list {
				checkMulDiv(t, a, b, c)
			}
		}
	}
}

// P1.3
func TestCmpOfOverZero(t *testing.T) {
	for _, a := range edges() {
		for _, c := range edges() {
			if got := fix.Cmp(a, 0, c, 0); got != 0 {
				t.Fatalf("Cmp(%d, 0, %d, 0) = %d", a, c, got)
			}
			for _, d := range edges()[1:] {
				if got := fix.Cmp(a, 0, c, d); got != 1 {
					t.Fatalf("Cmp(%d, 0, %d, %d) = %d", a, c, d, got)
				}
				if got := fix.Cmp(c, d, a, 0); got != -1 {
					t.Fatalf("Cmp(%d, %d, %d, 0) = %d", c, d, a, got)
				}
			}
		}
	}
}

// P1.3: numbers above the cap are taken as they are, and the least difference is told.
func TestCmpIsExact(t *testing.T) {
	rows := []struct {
		a, b, c, d uint64
		want       int
	}{
		{1, 3, 2, 6, 0},
		{1, 3, 2, 5, -1},
		{2, 5, 1, 3, 1},
		{0, 1, 0, most, 0},
		{0, 1, 1, most, -1},
		{api.Cap, 1, api.Cap + 1, 1, -1},
		{most, 1, most - 1, 1, 1},
		{1, most, 1, most - 1, -1},
		{1, api.Cap, 1, api.Cap + 1, 1},
		{most, most, 1, 1, 0},
		{most, most, api.Cap, api.Cap, 0},
		{most, most - 1, most - 1, most - 2, -1},
		{most - 1, most, most - 2, most - 1, 1},
		{api.Cap, api.Cap - 1, api.Cap + 1, api.Cap, 1},
		{1 << 63, 1 << 62, 2, 1, 0},
		{1<<63 + 1, 1 << 62, 2, 1, 1},
		{1<<63 - 1, 1 << 62, 2, 1, -1},
		{1<<33 + 1, 1 << 33, 1<<32 + 1, 1 << 32, -1},
	}
	for _, r := range rows {
		if got := fix.Cmp(r.a, r.b, r.c, r.d); got != r.want {
			t.Errorf("Cmp(%d, %d, %d, %d) = %d, not %d", r.a, r.b, r.c, r.d, got, r.want)
		}
	}
}

// P1.3: neighbours a/b, b/(a+b) of the Fibonacci numbers differ by the least that their sizes allow.
func TestCmpOfNeighbours(t *testing.T) {
	a, b, want := uint64(1), uint64(1), 1
	for range 90 {
		if got := fix.Cmp(a, b, b, a+b); got != want {
			t.Errorf("Cmp(%d, %d, %d, %d) = %d, not %d", a, b, b, a+b, got, want)
		}
		if got := fix.Cmp(b, a, a+b, b); got != -want {
			t.Errorf("Cmp(%d, %d, %d, %d) = %d, not %d", b, a, a+b, b, got, -want)
		}
		a, b, want = b, a+b, -want
	}
}

// P1.3
func TestCmpAgainstWholeNumbers(t *testing.T) {
	list := append(edges(), mixed(8)...)
	for _, a := range list {
		for _, b := range list {
			for _, c := range list {
				for _, d := range list {
					checkCmp(t, a, b, c, d)
				}
			}
		}
	}
}

// P1.4
func TestOrderOfTwoAndOfThree(t *testing.T) {
	list := append(edges(), mixed(32)...)
	for _, a := range list {
		for _, b := range list {
			if fix.Add(a, b) != fix.Add(b, a) {
				t.Fatalf("Add minds the order of %d, %d", a, b)
			}
			if fix.Mul(a, b) != fix.Mul(b, a) {
				t.Fatalf("Mul minds the order of %d, %d", a, b)
			}
			for _, c := range list {
				if fix.Add(fix.Add(a, b), c) != fix.Add(a, fix.Add(b, c)) {
					t.Fatalf("Add minds the order of %d, %d, %d", a, b, c)
				}
			}
		}
	}
}

func checkRise(t *testing.T, low, high, b, c uint64) {
	t.Helper()
	if fix.Add(low, b) > fix.Add(high, b) || fix.Add(b, low) > fix.Add(b, high) {
		t.Fatalf("Add falls from %d to %d, beside %d", low, high, b)
	}
	if fix.Sub(low, b) > fix.Sub(high, b) {
		t.Fatalf("Sub falls from %d to %d, less %d", low, high, b)
	}
	if fix.Sub(b, low) < fix.Sub(b, high) {
		t.Fatalf("Sub rises, %d less %d to %d", b, low, high)
	}
	if fix.Mul(low, b) > fix.Mul(high, b) || fix.Mul(b, low) > fix.Mul(b, high) {
		t.Fatalf("Mul falls from %d to %d, beside %d", low, high, b)
	}
	if fix.MulDiv(low, b, c) > fix.MulDiv(high, b, c) || fix.MulDiv(b, low, c) > fix.MulDiv(b, high, c) {
		t.Fatalf("MulDiv falls from %d to %d, beside %d, over %d", low, high, b, c)
	}
	if fix.MulDiv(b, c, low) < fix.MulDiv(b, c, high) {
		t.Fatalf("MulDiv rises, %d times %d over %d to %d", b, c, low, high)
	}
}

// P1.4
func TestNothingFallsWhenANumberRises(t *testing.T) {
	list := append(edges(), mixed(8)...)
	for _, low := range list {
		for _, high := range list {
			if low > high {
				continue
			}
			for _, b := range list {
				for _, c := range list {
					checkRise(t, low, high, b, c)
				}
			}
		}
	}
}

type quotient struct{ above, below uint64 }

func (q quotient) cmp(other quotient) int {
	return fix.Cmp(q.above, q.below, other.above, other.below)
}

func quotients(list []uint64) []quotient {
	var all []quotient
	for _, a := range list {
		for _, b := range list {
			all = append(all, quotient{a, b})
		}
	}
	return all
}

// P1.4
func TestCmpTurnedAboutSaysTheOpposite(t *testing.T) {
	all := quotients(edges())
	for _, q := range all {
		if got := q.cmp(q); got != 0 {
			t.Fatalf("%v against itself: %d", q, got)
		}
		for _, r := range all {
			if q.cmp(r) != -r.cmp(q) {
				t.Fatalf("%v against %v: %d, turned about %d", q, r, q.cmp(r), r.cmp(q))
			}
		}
	}
}

// P1.4
func TestCmpIsAnOrderOfThree(t *testing.T) {
	all := quotients([]uint64{0, 1, 2, 3, 1 << 32, api.Cap - 1, api.Cap, api.Cap + 1, most - 1, most})
	for _, q := range all {
		for _, r := range all {
			if q.cmp(r) > 0 {
				continue
			}
			for _, s := range all {
				if r.cmp(s) <= 0 && q.cmp(s) > 0 {
					t.Fatalf("%v, %v, %v", q, r, s)
				}
			}
		}
	}
}
