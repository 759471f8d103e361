package lin

import "math"

// nearlyInverse goes Gauss' and Jordan's way, in floats: what comes of it is shown to be of use elsewhere. None, if nothing but 0 is left to divide by.
//
// The pivot is the greatest amount in all rows that are left: so no amount grows much. Columns that had one are 0 there, and have none again.
func nearlyInverse(b [][]float64) [][]float64 {
	n := len(b)
	rows := besideOne(b)
	inverse := make([][]float64, n)
	for k := range n {
		p, q := greatestPlace(rows[k:], n)
		if q < 0 {
			return nil
		}
		rows[k], rows[k+p] = rows[k+p], rows[k]
		divide(rows[k], rows[k][q])
		for i, row := range rows {
			if i != k {
				takeOff(row, rows[k], row[q])
			}
		}
		inverse[q] = rows[k][n:]
	}
	return inverse
}

// besideOne copies the rows of b, each with that of One behind it.
func besideOne(b [][]float64) [][]float64 {
	n := len(b)
	rows := grid[float64](n, n+n)
	for i := range n {
		copy(rows[i], b[i])
		rows[i][n+i] = 1
	}
	return rows
}

// greatestPlace is the row and the column of the greatest amount in the first columns; the column is -1, if there is nothing but 0.
func greatestPlace(rows [][]float64, columns int) (p, q int) {
	greatest := 0.0
	q = -1
	for i, row := range rows {
		for j := range columns {
			if amount := math.Abs(row[j]); amount > greatest {
				greatest, p, q = amount, i, j
			}
		}
	}
	return p, q
}

func divide(row []float64, by float64) {
	for j := range row {
		row[j] /= by
	}
}

// takeOff takes times other off row.
func takeOff(row, other []float64, times float64) {
	for j := range row {
		row[j] -= float64(times * other[j]) // the conversion keeps the product from being joined with the sum
	}
}
