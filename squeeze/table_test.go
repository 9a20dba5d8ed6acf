package squeeze_test

import (
	"strconv"
	"strings"
)

// The chapter's table, read a second time: by the words of its rows, with the places as they stand there.

// pick tells h[from..to] for each of the spans, one behind the other, as a text of digits 0 and 1.
func pick(h uint16, spans ...int) string {
	var digits strings.Builder
	for k := 0; k < len(spans); k += 2 {
		for at := spans[k]; at >= spans[k+1]; at-- {
			digits.WriteByte('0' + byte(h>>at&1))
		}
	}
	return digits.String()
}

// number tells h[from..to] for each of the spans as a number.
func number(h uint16, spans ...int) uint32 {
	n, err := strconv.ParseUint(pick(h, spans...), 2, 16)
	if err != nil {
		panic(err)
	}
	return uint32(n)
}

// spread tells the immediate of a row of places.
func spread(digits, places string, signed bool) int {
	to := strings.Fields(places)
	if len(to) != len(digits) {
		panic(places)
	}
	imm, highest, sign := 0, 0, false
	for k, text := range to {
		at, err := strconv.Atoi(text)
		if err != nil {
			panic(err)
		}
		one := digits[k] == '1'
		if one {
			imm += 1 << at
		}
		if at >= highest {
			highest, sign = at, one
		}
	}
	if signed && sign {
		imm -= 2 << highest
	}
	return imm
}

func formR(f7, rs2, rs1, f3, rd, op uint32) uint32 {
	return f7<<25 + rs2<<20 + rs1<<15 + f3<<12 + rd<<7 + op
}

func formI(imm int, rs1, f3, rd, op uint32) uint32 {
	return formR(bitsOf(imm, 11, 5), bitsOf(imm, 4, 0), rs1, f3, rd, op)
}

func formS(imm int, rs2, rs1, f3, op uint32) uint32 {
	return formR(bitsOf(imm, 11, 5), rs2, rs1, f3, bitsOf(imm, 4, 0), op)
}

func formB(imm int, rs2, rs1, f3, op uint32) uint32 {
	return formR(bitsOf(imm, 12, 12)<<6+bitsOf(imm, 10, 5), rs2, rs1, f3, bitsOf(imm, 4, 1)<<1+bitsOf(imm, 11, 11), op)
}

func formU(imm int, rd, op uint32) uint32 {
	return bitsOf(imm, 31, 12)<<12 + rd<<7 + op
}

func formJ(imm int, rd, op uint32) uint32 {
	upper := bitsOf(imm, 20, 20)<<19 + bitsOf(imm, 10, 1)<<9 + bitsOf(imm, 11, 11)<<8 + bitsOf(imm, 19, 12)
	return upper<<12 + rd<<7 + op
}

func bitsOf(imm, from, to int) uint32 {
	return uint32(imm>>to) % (1 << (from - to + 1))
}

// told tells what the chapter's table says of a half; 0: nothing.
func told(h uint16) uint32 {
	switch h % 4 {
	case 0:
		return toldFirst(h)
	case 1:
		if number(h, 15, 13) == 4 {
			return toldSum(h)
		}
		return toldSecond(h)
	case 2:
		if number(h, 15, 13) == 4 {
			return toldMove(h)
		}
		return toldThird(h)
	}
	return 0
}

func toldFirst(h uint16) uint32 {
	x, y := 8+number(h, 9, 7), 8+number(h, 4, 2)
	double := spread(pick(h, 12, 10, 6, 5), "5 4 3 7 6", false)
	word := spread(pick(h, 12, 10, 6, 5), "5 4 3 2 6", false)
	switch number(h, 15, 13) {
	case 0:
		imm := spread(pick(h, 12, 5), "5 4 9 8 7 6 2 3", false)
		if imm != 0 {
			return formI(imm, 2, 0, y, 0x13)
		}
	case 1:
		return formI(double, x, 3, y, 0x07)
	case 2:
		return formI(word, x, 2, y, 0x03)
	case 3:
		return formI(double, x, 3, y, 0x03)
	case 5:
		return formS(double, y, x, 3, 0x27)
	case 6:
		return formS(word, y, x, 2, 0x23)
	case 7:
		return formS(double, y, x, 3, 0x23)
	}
	return 0
}

func toldSecond(h uint16) uint32 {
	d, x := number(h, 11, 7), 8+number(h, 9, 7)
	i := spread(pick(h, 12, 12, 6, 2), "5 4 3 2 1 0", true)
	branch := spread(pick(h, 12, 10, 6, 2), "8 4 3 7 6 2 1 5", true)
	switch number(h, 15, 13) {
	case 0:
		return formI(i, d, 0, d, 0x13)
	case 1:
		if d != 0 {
			return formI(i, d, 0, d, 0x1b)
		}
	case 2:
		return formI(i, 0, 0, d, 0x13)
	case 3:
		imm := spread(pick(h, 12, 12, 6, 2), "9 4 6 8 7 5", true)
		if d == 2 && imm != 0 {
			return formI(imm, 2, 0, 2, 0x13)
		}
		if d != 2 && i != 0 {
			return formU(i*4096, d, 0x37)
		}
	case 5:
		return formJ(spread(pick(h, 12, 2), "11 4 9 8 10 6 7 3 2 1 5", true), 0, 0x6f)
	case 6:
		return formB(branch, 0, x, 0, 0x63)
	case 7:
		return formB(branch, 0, x, 1, 0x63)
	}
	return 0
}

func toldSum(h uint16) uint32 {
	x, y := 8+number(h, 9, 7), 8+number(h, 4, 2)
	i := spread(pick(h, 12, 12, 6, 2), "5 4 3 2 1 0", true)
	s := spread(pick(h, 12, 12, 6, 2), "5 4 3 2 1 0", false)
	switch number(h, 11, 10) {
	case 0:
		return formI(s, x, 5, x, 0x13)
	case 1:
		return formI(s+1024, x, 5, x, 0x13)
	case 2:
		return formI(i, x, 7, x, 0x13)
	}
	switch number(h, 12, 12, 6, 5) {
	case 0:
		return formR(32, y, x, 0, x, 0x33)
	case 1:
		return formR(0, y, x, 4, x, 0x33)
	case 2:
		return formR(0, y, x, 6, x, 0x33)
	case 3:
		return formR(0, y, x, 7, x, 0x33)
	case 4:
		return formR(32, y, x, 0, x, 0x3b)
	case 5:
		return formR(0, y, x, 0, x, 0x3b)
	}
	return 0
}

func toldThird(h uint16) uint32 {
	d, t := number(h, 11, 7), number(h, 6, 2)
	s := spread(pick(h, 12, 12, 6, 2), "5 4 3 2 1 0", false)
	double := spread(pick(h, 12, 12, 6, 2), "5 4 3 8 7 6", false)
	word := spread(pick(h, 12, 12, 6, 2), "5 4 3 2 7 6", false)
	switch number(h, 15, 13) {
	case 0:
		return formI(s, d, 1, d, 0x13)
	case 1:
		return formI(double, 2, 3, d, 0x07)
	case 2:
		if d != 0 {
			return formI(word, 2, 2, d, 0x03)
		}
	case 3:
		if d != 0 {
			return formI(double, 2, 3, d, 0x03)
		}
	case 5:
		return formS(spread(pick(h, 12, 7), "5 4 3 8 7 6", false), t, 2, 3, 0x27)
	case 6:
		return formS(spread(pick(h, 12, 7), "5 4 3 2 7 6", false), t, 2, 2, 0x23)
	case 7:
		return formS(spread(pick(h, 12, 7), "5 4 3 8 7 6", false), t, 2, 3, 0x23)
	}
	return 0
}

func toldMove(h uint16) uint32 {
	d, t, linked := number(h, 11, 7), number(h, 6, 2), number(h, 12, 12) == 1
	switch {
	case !linked && t == 0 && d != 0:
		return formI(0, d, 0, 0, 0x67)
	case !linked && t != 0:
		return formR(0, t, 0, 0, d, 0x33)
	case linked && t == 0 && d == 0:
		return 0x00100073
	case linked && t == 0:
		return formI(0, d, 0, 1, 0x67)
	case linked:
		return formR(0, t, d, 0, d, 0x33)
	}
	return 0
}
