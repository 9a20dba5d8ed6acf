package soft_test

import (
	"math"
	"math/big"
	"runtime"
	"sort"
	"sync"
	"testing"
)

// exact is what an operation comes to in real numbers: its sign, whether it is 0, and how it stands to others.
type exact struct {
	minus, nought bool
	held          func(v *big.Float) int // v against its distance from 0: below -1, the same 0, above 1
}

// known is what is one number exactly.
func known(x *big.Float) exact {
	d := new(big.Float).Abs(x)
	return exact{x.Sign() < 0, x.Sign() == 0, func(v *big.Float) int { return v.Cmp(d) }}
}

func half(v *big.Float) *big.Float { return empty().SetMantExp(v, -1) }

func empty() *big.Float { return new(big.Float).SetPrec(precision) }

// exactOf goes by the meaning of the operations: a quotient stands to v as the dividend to v times the divisor.
func exactOf(name string, size int, args [3]uint64) exact {
	a, b, c := valueOf(size, args[0]), exactly(0), exactly(0)
	switch name {
	case "Fma":
		c = valueOf(size, args[2])
		fallthrough
	case "Add", "Sub", "Mul", "Div":
		b = valueOf(size, args[1])
	}
	switch name {
	case "Add":
		return known(empty().Add(a, b))
	case "Sub":
		return known(empty().Sub(a, b))
	case "Mul":
		return known(empty().Mul(a, b))
	case "Fma":
		return known(empty().Add(empty().Mul(a, b), c))
	case "Sqrt":
		return exact{false, a.Sign() == 0, func(v *big.Float) int { return empty().Mul(v, v).Cmp(a) }}
	}
	da, db := new(big.Float).Abs(a), new(big.Float).Abs(b)
	return exact{a.Sign()*b.Sign() < 0, a.Sign() == 0, func(v *big.Float) int { return empty().Mul(v, db).Cmp(da) }}
}

// farther tells whether what lies between two neighbours is rounded to the one farther from 0.
func farther(rm int, minus, nearOdd bool, near, next *big.Float, x exact) bool {
	to := x.held(half(empty().Add(near, next)))
	switch rm {
	case 0:
		return to < 0 || to == 0 && nearOdd
	case 2:
		return minus
	case 3:
		return !minus
	case 4:
		return to <= 0
	}
	return false
}

// nearest is the greatest float whose distance from 0 is not above that of x, found among all floats by halving; the infinity, if x lies behind all that could be finite.
func nearest(size int, x exact) uint64 {
	return uint64(sort.Search(int(endOf(size)), func(i int) bool { return x.held(valueOf(size, uint64(i)+1)) > 0 }))
}

// rounded is the float of what is not 0, near being its nearest.
func rounded(size, rm int, x exact, near uint64) (uint64, int) {
	end, sign := endOf(size), uint64(0)
	if x.minus {
		sign = signOf(size)
	}
	if near < end {
		v := valueOf(size, near)
		if x.held(v) == 0 {
			return sign | near, 0
		}
		if farther(rm, x.minus, near&1 != 0, v, valueOf(size, near+1), x) {
			near++
		}
		if near < end {
			return sign | near, inexact | small(size, rm, x)
		}
	}
	if rm == 1 || rm == 2 && !x.minus || rm == 3 && x.minus {
		return sign | end - 1, inexact | overflow
	}
	return sign | end, inexact | overflow
}

// small tells underflow: whether x, rounded as if there were no subnormal ones, is below the least normal one.
func small(size, rm int, x exact) int {
	least := valueOf(size, leastOf(size))
	if x.held(least) <= 0 {
		return 0
	}
	// The one ahead of the least normal one has as many bits as that one, all of them 1.
	ahead := half(valueOf(size, 2*leastOf(size)-1))
	if x.held(ahead) < 0 && farther(rm, x.minus, true, ahead, least, x) {
		return 0
	}
	return underflow
}

// isInvalid is P1.1's first.
func isInvalid(name string, size int, a [3]uint64, args int) bool {
	for _, x := range a[:args] {
		if isSignalling(size, x) {
			return true
		}
	}
	unlike := isMinus(size, a[0]) != isMinus(size, a[1])
	ends := isEnd(size, a[0]) && isEnd(size, a[1])
	mixed := isNought(size, a[0]) && isEnd(size, a[1]) || isEnd(size, a[0]) && isNought(size, a[1])
	switch name {
	case "Add":
		return ends && unlike
	case "Sub":
		return ends && !unlike
	case "Mul":
		return mixed
	case "Div":
		return ends || isNought(size, a[0]) && isNought(size, a[1])
	case "Sqrt":
		return !isNone(size, a[0]) && !isNought(size, a[0]) && isMinus(size, a[0])
	}
	end := !isNone(size, a[0]) && !isNone(size, a[1]) && (isEnd(size, a[0]) || isEnd(size, a[1]))
	return mixed || end && isEnd(size, a[2]) && unlike != isMinus(size, a[2])
}

// endless is P1.1's third and fourth: what comes out where an infinity comes in, or is divided by a nought.
func endless(name string, size int, a [3]uint64) (uint64, int, bool) {
	sign, end := (a[0]^a[1])&signOf(size), endOf(size)
	first, second := isEnd(size, a[0]), isEnd(size, a[1])
	switch name {
	case "Add", "Sub":
		if first {
			return a[0], 0, true
		}
		if name == "Sub" {
			return a[1] ^ signOf(size), 0, second
		}
		return a[1], 0, second
	case "Mul":
		return sign | end, 0, first || second
	case "Div":
		if first || second {
			if first {
				return sign | end, 0, true
			}
			return sign, 0, true
		}
		return sign | end, byZero, isNought(size, a[1])
	case "Sqrt":
		return end, 0, first
	}
	if first || second {
		return sign | end, 0, true
	}
	return a[2], 0, isEnd(size, a[2])
}

// ofNought is what P1.1's fifth says of the exact value 0.
func ofNought(name string, size, rm int, a [3]uint64) uint64 {
	sign := signOf(size)
	parts := [2]uint64{a[0], a[1]}
	switch name {
	case "Mul", "Div":
		return (a[0] ^ a[1]) & sign
	case "Sqrt":
		return a[0]
	case "Sub":
		parts[1] ^= sign
	case "Fma":
		parts = [2]uint64{(a[0] ^ a[1]) & sign, a[2]}
		if !isNought(size, a[0]) && !isNought(size, a[1]) {
			parts[0] |= 1 // no nought, whatever it is
		}
	}
	if parts[0] == parts[1] && isNought(size, parts[0]) {
		return parts[0]
	}
	if rm == 2 {
		return sign
	}
	return 0
}

// answers are what the chapter says, P1.1, a mode each.
func answers(o operation, size int, a [3]uint64) (want [5]uint64, flags [5]int) {
	if isInvalid(o.name, size, a, o.args) {
		return inAll(quietOf(size), invalid)
	}
	for _, x := range a[:o.args] {
		if isNone(size, x) {
			return inAll(quietOf(size), 0)
		}
	}
	if r, f, ok := endless(o.name, size, a); ok {
		return inAll(r, f)
	}
	x := exactOf(o.name, size, a)
	near := uint64(0)
	if !x.nought {
		near = nearest(size, x)
	}
	for rm := range 5 {
		if x.nought {
			want[rm] = ofNought(o.name, size, rm, a)
		} else {
			want[rm], flags[rm] = rounded(size, rm, x, near)
		}
	}
	return want, flags
}

func inAll(r uint64, f int) ([5]uint64, [5]int) {
	return [5]uint64{r, r, r, r, r}, [5]int{f, f, f, f, f}
}

// compare holds an operation against what the chapter says, in all modes.
func compare(t *testing.T, o operation, size int, rows [][3]uint64) {
	t.Helper()
	var group sync.WaitGroup
	workers := runtime.NumCPU()
	for w := range workers {
		group.Go(func() {
			for i := w; i < len(rows) && !t.Failed(); i += workers {
				want, flags := answers(o, size, rows[i])
				for rm := range 5 {
					if r, f := o.do(size, rm, rows[i]); r != want[rm] || f != flags[rm] {
						t.Errorf("%s %d %d %x: %x, %#x; want %x, %#x", o.name, size, rm, rows[i], r, f, want[rm], flags[rm])
					}
				}
			}
		})
	}
	group.Wait()
}

// P1.1 and W7 where something changes.
func TestEdgesAreExact(t *testing.T) {
	for _, o := range operations() {
		for _, size := range []int{4, 8} {
			l := edges(size)
			if o.args == 3 {
				l = shortEdges(size)
			}
			compare(t, o, size, rowsOf(size, o.args, l))
		}
	}
}

// P1.1 and W7 elsewhere.
func TestOthersAreExact(t *testing.T) {
	for _, o := range operations() {
		for _, size := range []int{4, 8} {
			compare(t, o, size, samples(o, size, 6000))
		}
	}
}

// The exact values that the tests go by are held against the machine's own floats, where these have the operation.
func TestAnswersOfTheMachine(t *testing.T) {
	native := map[string]func(a [3]float64) float64{
		"Add":  func(a [3]float64) float64 { return a[0] + a[1] },
		"Sub":  func(a [3]float64) float64 { return a[0] - a[1] },
		"Mul":  func(a [3]float64) float64 { return a[0] * a[1] },
		"Div":  func(a [3]float64) float64 { return a[0] / a[1] },
		"Sqrt": func(a [3]float64) float64 { return math.Sqrt(a[0]) },
		"Fma":  func(a [3]float64) float64 { return math.FMA(a[0], a[1], a[2]) },
	}
	for _, o := range operations() {
		rows := samples(o, 8, 20000)
		if o.args < 3 {
			rows = append(rows, rowsOf(8, o.args, edges(8))...)
		} else {
			rows = append(rows, rowsOf(8, o.args, shortEdges(8))...)
		}
		for _, a := range rows {
			want := math.Float64bits(native[o.name]([3]float64{math.Float64frombits(a[0]), math.Float64frombits(a[1]), math.Float64frombits(a[2])}))
			if isNone(8, want) {
				want = quietOf(8)
			}
			if r, _ := o.do(8, 0, a); r != want {
				t.Fatalf("%s 8 0 %x: %x; want %x", o.name, a, r, want)
			}
		}
	}
}
